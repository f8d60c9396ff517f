/-
  The code's Clone, Due and Right of wheels. Every wheel of at most 1000 timers.
-/
import Derived.Test.YtljochpomgjjeaaRwa
namespace Go.Proofs.Ytljochpomgjjeaa
open Go.RowKit

/-- a wheel of the call's own -/
def OwnW (w : World) (lo : Nat) (v : Value) (n : Nat) (T : List Tm) : Prop := ∃ s, v = .agg #[.int .u64 (n : Int), s] ∧ w.ownsRow lo 53 2 s T.length (rowsOf tmA T)
theorem OwnW.wht {w : World} {lo n : Nat} {v : Value} {T : List Tm} (h : OwnW w lo v n T) : WhT w v n T := by
  obtain ⟨s, e, h⟩ := h
  exact ⟨s, e, TlT.own h⟩
theorem stores_two {P : Program} {w : World} {g : Nat} {t : TypeId} {u0 u1 v0 v1 : Value} (h : w.heap[g]? = some (.cells #[u0, u1] t (0, 0))) (h0 : v0.oneCell' = true) (h1 : v1.oneCell' = true) :
    (store ⟨g, 0, none⟩ v0).run P w = .ok () (w.setCell ⟨g, 0, none⟩ v0) ∧ (store ⟨g, 1, none⟩ v1).run P (w.setCell ⟨g, 0, none⟩ v0) = .ok () ((w.setCell ⟨g, 0, none⟩ v0).setCell ⟨g, 1, none⟩ v1) :=
  ⟨store_cell h (by simp) h0, store_cell (heap_setCell_same _ _ 0 _ _ v0 h) (by simp) h1⟩
theorem row22 {w : World} {g : Nat} {t : TypeId} {u0 u1 : Value} (h : w.heap[g]? = some (.cells #[u0, u1] t (0, 0))) (v0 v1 : Value) : (w.setCell ⟨g, 0, none⟩ v0).setCell ⟨g, 1, none⟩ v1 = w.setRow g #[v0, v1] := by
  rw [row20 h, row2 (setRow_heap _ _ _ _ _ _ h), setRow_setRow]
theorem OwnW.whs {w : World} {lo n : Nat} {v : Value} {T : List Tm} (h : OwnW w lo v n T) : WhS w v n T := h.wht.whs
set_option maxRecDepth 100000 in
set_option maxHeartbeats 8000000 in
theorem clonew_any (v : Value) (n : Nat) (T : List Tm) (w : World) (hv : WhS w v n T) (hl : T.length ≤ 1000) : Calls Try.prog 8 #[v] w fun e w' => ∃ v', e = .returned v' ∧ OwnW w' w.heap.size v' n T ∧ Below w.heap.size w w' := by
  obtain ⟨s, rfl, A, c, rfl, hr, hA, hnc, hcm⟩ := hv
  obtain ⟨n1, hnn⟩ : ∃ n1, T.length = n1 := ⟨_, rfl⟩
  have HN := Lib.hid hnn
  rw [hnn] at hl hnc ⊢
  obtain ⟨w1, hw1⟩ : ∃ w1, (w.alloc (.cells #[.int .u64 (n : Int), .slice A n1 c] 27)).alloc (.cells #[.int .u64 0, .slice none 0 0] 27) = w1 := ⟨_, rfl⟩
  have HB1 : Hid (Below w.heap.size w w1) := by rw [← hw1]; exact ((Below.refl _ _).alloc (Nat.le_refl _) _).alloc (by simp) _
  have HX0 : Hid (w1.heap[w.heap.size]? = some (.cells #[.int .u64 (n : Int), .slice A n1 c] 27 (0, 0))) := by rw [← hw1]; exact old_alloc (heap_alloc_new w _) _
  have HX1 : Hid (w1.heap[w.heap.size + 1]? = some (.cells #[.int .u64 0, .slice none 0 0] 27 (0, 0))) := by rw [← hw1]; exact new_at1 w _ _
  have HW := Lib.hid hw1
  have HBD : Hid (Below w1.heap.size w1 w1.drew) := below_drewN' (Below.refl _ _) 1
  have HCL := Lib.hid (clW_any A (rowsOf tmA T) n1 c 0 w1.drew.heap.size w1.drew ((hr.below HB1.out (Nat.le_refl _)).below HBD.out (Nat.le_refl _)).rd (Nat.le_refl _) (by rw [rows_length tmE, hnn]) (rows_ones tmE T) hA (by omega))
  obtain ⟨g, hg⟩ : ∃ g, w.heap.size + 1 = g := ⟨_, rfl⟩
  rw [hg] at HX1
  have HG := Lib.hid hg
  have HNE : Hid (w.heap.size ≠ g) := by show _ ≠ _; omega
  have hcm2 : c ≤ 9223372036854775807 := by unfold maxLen at hcm; omega
  clear hw1 hg hnn hr hA hcm
  obtain ⟨a0, a1⟩ := two_cells HX0.out
  go_enter Try.func8, Try.ntmps8
  go_upto_region 1 with (fail)
  change Code.wp _ _ _ _ ((w.alloc (.cells #[.int .u64 (n : Int), .slice A n1 c] 27)).alloc (.cells #[.int .u64 0, .slice none 0 0] 27))
  rw [HW.out, HG.out]
  clear HW
  go_region_with (go_at_call 19; refine HCL.out.mono ?_; rintro e w2 ⟨v2, rfl, ho, hb2⟩; obtain ⟨A2, c2, rfl, -, -, -⟩ := ownk_form ho; have HO2 := Lib.hid ho; have hb3 := HBD.out.trans (hb2.mono HBD.out.size); have HX02 := Lib.hid (old_below HX0.out hb3 (row_lt HX0.out)); have HX12 := Lib.hid (old_below HX1.out hb3 (row_lt HX1.out)); have HB2 := Lib.hid (HB1.out.trans (hb3.mono HB1.out.size)); obtain ⟨b0, b1⟩ := two_cells HX02.out; obtain ⟨y0, y1⟩ := two_cells HX12.out; have hfz0 := frozen_of_row w2 g 0 _ _ HX12.out; have hfz1 := frozen_of_row w2 g 1 _ _ HX12.out; have hne1 : ¬ g = w.heap.size := fun e => HNE.out e.symm; have hne2 : ¬ w.heap.size = g := HNE.out; clear ho hb2 hb3)
  all_goals rw [row22 HX12.out]
  all_goals go_wp2
  all_goals refine ret_one (g := g) rfl rfl (setRow_heap _ _ _ _ _ _ HX12.out) Try.underlying27 rfl (by kernel_rfl) rfl ?_
  all_goals refine ⟨_, rfl, ⟨_, rfl, ?_⟩, below_setRow HB2.out (by have := HG.out; omega) _⟩
  all_goals rw [HN.out]
  all_goals exact ownk_other (ownk_base HO2.out (Nat.le_trans HB1.out.size HBD.out.size)) HX12.out (by decide) fun j hj => setRow_other _ _ _ _ hj
theorem find_none {T : List Tm} {id : Int} (h : T.findIdx? (isI id) = none) : dueC T id = (0, false) := by
  unfold dueC
  rw [List.find?_eq_none.2 fun x hx => by have := List.findIdx?_eq_none_iff.1 h x hx; unfold isI at this; simpa using this]
theorem find_some {T : List Tm} {id : Int} {i : Nat} {x : Tm} (h : T.findIdx? (isI id) = some i) (hx : T[i]? = some x) : dueC T id = (x.due, true) := by
  obtain ⟨hi, hp, hn⟩ := List.findIdx?_eq_some_iff_getElem.1 h
  have hxe : T[i] = x := (List.getElem?_eq_some_iff.1 hx).2
  have : T.find? (fun t => decide (t.id = id)) = some x := List.find?_eq_some_iff_getElem.2 ⟨by rw [← hxe]; exact hp, i, hi, hxe, fun j hj => by have := hn j hj; unfold isI at this; simpa using this⟩
  unfold dueC
  rw [this]
theorem right_len {n : Nat} {T : List Tm} (h : rightW n T = true) : T.length ≤ 64 := (rightW_iff.1 h).1
set_option maxRecDepth 100000 in
set_option maxHeartbeats 8000000 in
theorem due_any (v : Value) (n : Nat) (T : List Tm) (id : Int) (w : World) (hv : WhS w v n T) (hR : rightW n T = true) (_hT : ∀ t ∈ T, I64 t.id ∧ t.due < 18446744073709551616) (_hid : I64 id) :
    Calls Try.prog 17 #[v, .int .i64 id] w fun e w' => e = .returned (.tuple #[.int .u64 ((dueC T id).1 : Int), .bool (dueC T id).2]) ∧ Below w.heap.size w w' := by
  have hl := right_len hR
  obtain ⟨s, rfl, hs⟩ := hv
  have HS := Lib.hid hs
  obtain ⟨A, c, rfl, hr, hA, hnc, hcm⟩ := hs
  obtain ⟨n1, hnn⟩ : ∃ n1, T.length = n1 := ⟨_, rfl⟩
  have HN := Lib.hid hnn
  rw [hnn] at hl hnc HS ⊢
  obtain ⟨w1, hw1⟩ : ∃ w1, w.alloc (.cells #[.int .u64 (n : Int), .slice A n1 c] 27) = w1 := ⟨_, rfl⟩
  have HB1 : Hid (Below w.heap.size w w1) := by rw [← hw1]; exact (Below.refl _ _).alloc (Nat.le_refl _) _
  have HX0 : Hid (w1.heap[w.heap.size]? = some (.cells #[.int .u64 (n : Int), .slice A n1 c] 27 (0, 0))) := by rw [← hw1]; exact heap_alloc_new w _
  have HW := Lib.hid hw1
  have HP := Lib.hid (place_any (.slice A n1 c) T id w1 (HS.out.below HB1.out) (by omega))
  have HRS := Lib.hid hr
  have hcm2 : c ≤ 9223372036854775807 := by unfold maxLen at hcm; omega
  clear hw1 hnn hr hA hcm HS
  obtain ⟨a0, a1⟩ := two_cells HX0.out
  rcases idxV_cases (isI id) T with ⟨hi, hf⟩ | ⟨i, hi, hin, hf⟩
  · have HV := Lib.hid (find_none hf)
    rw [hi] at HP
    clear hi hf
    go_enter Try.func17, Try.ntmps17
    go_upto_region 1 with (fail)
    change Code.wp _ _ _ _ (w.alloc (.cells #[.int .u64 (n : Int), .slice A n1 c] 27))
    rw [HW.out]
    clear HW
    go_wp2_with fail
    refine HP.out.mono ?_
    rintro e w2 ⟨rfl, hb⟩
    have HB2 := Lib.hid (HB1.out.trans (hb.mono HB1.out.size))
    clear a0 a1 hb
    go_wp2
    refine ret_tmp2 rfl rfl ?_
    rw [HV.out]
    exact ⟨rfl, HB2.out⟩
  · obtain ⟨x, hx⟩ : ∃ x, T[i]? = some x := ⟨_, List.getElem?_eq_getElem hin⟩
    have HV := Lib.hid (find_some hf hx)
    rw [HN.out] at hin
    obtain ⟨ad, rfl, hKA⟩ := el_all tmE (HRS.out.below HB1.out (Nat.le_refl _)) (by omega) hx
    have HKA := Lib.hid hKA
    rw [hi] at HP
    have hi0 : ¬ (i : Int) < 0 := by omega
    have HD := Lib.hid (tmA_due x)
    generalize x.due = z at HV HD
    clear hi hf hx hKA
    go_enter Try.func17, Try.ntmps17
    go_upto_region 1 with (fail)
    change Code.wp _ _ _ _ (w.alloc (.cells #[.int .u64 (n : Int), .slice (some ad) n1 c] 27))
    rw [HW.out]
    clear HW
    go_wp2_with fail
    refine HP.out.mono ?_
    rintro e w2 ⟨rfl, hb⟩
    have HB2 := Lib.hid (HB1.out.trans (hb.mono HB1.out.size))
    have HX2 := Lib.hid (old_below HX0.out hb (row_lt HX0.out))
    have k1 : w2.cell? ⟨(ad.add (i * 2)).block, (ad.add (i * 2)).off + 1, none⟩ = some (.int .u64 (z : Int)) := HKA.out w2 hb 1 _ HD.out
    clear a0 a1 hb
    obtain ⟨a0, a1⟩ := two_cells HX2.out
    go_wp2
    refine ret_tmp2 rfl rfl ?_
    rw [HV.out]
    exact ⟨rfl, HB2.out⟩
/-- what is known of the first timers while one looks whether a wheel is right -/
structure RI (n : Nat) (T : List Tm) (i e : Nat) : Prop where
  hi : ∀ x ∈ T.take i, x.due ≤ e
  pw : (T.take i).Pairwise before
  gt : ∀ x ∈ T.take i, n < x.due
  at_ : (i = 0 ∧ e = n + 1) ∨ ∃ x, 0 < i ∧ T[i - 1]? = some x ∧ x.due = e ∧ n < e
theorem ri_zero (n : Nat) (T : List Tm) : RI n T 0 (n + 1) := ⟨by simp, by simp, by simp, .inl ⟨rfl, rfl⟩⟩
theorem RI.lo {n i e : Nat} {T : List Tm} (h : RI n T i e) : n < e := by
  rcases h.at_ with ⟨_, rfl⟩ | ⟨_, _, _, _, h⟩
  · exact Nat.lt_succ_self _
  · exact h
theorem ri_next {n i e : Nat} {T : List Tm} {t : Tm} (h : RI n T i e) (ht : T[i]? = some t) (he : e ≤ t.due) (hf : (T.take i).findIdx? (isI t.id) = none) : RI n T (i + 1) t.due := by
  have hlt := (List.getElem?_eq_some_iff.1 ht).1
  have hte := (List.getElem?_eq_some_iff.1 ht).2
  have hlo := h.lo
  have hk : T.take (i + 1) = T.take i ++ [t] := by rw [List.take_succ_eq_append_getElem hlt, hte]
  refine ⟨?_, ?_, ?_, .inr ⟨t, Nat.succ_pos _, ht, rfl, by omega⟩⟩
  · intro x hx
    rw [hk] at hx
    rcases List.mem_append.1 hx with hx | hx
    · exact Nat.le_trans (h.hi x hx) he
    · simp at hx
      rw [hx]
      exact Nat.le_refl _
  · rw [hk, List.pairwise_append]
    refine ⟨h.pw, by simp, fun a ha b hb => ?_⟩
    simp at hb
    subst hb
    have := List.findIdx?_eq_none_iff.1 hf a ha
    exact ⟨by unfold isI at this; simpa using this, Nat.le_trans (h.hi a ha) he⟩
  · intro x hx
    rw [hk] at hx
    rcases List.mem_append.1 hx with hx | hx
    · exact h.gt x hx
    · simp at hx
      rw [hx]
      omega
theorem ri_due {n i e : Nat} {T : List Tm} {t : Tm} (h : RI n T i e) (ht : T[i]? = some t) (he : t.due < e) : rightW n T = false := by
  refine decide_eq_false fun hh => ?_
  rcases h.at_ with ⟨rfl, rfl⟩ | ⟨x, h0, hx, rfl, _⟩
  · have := hh.2.2.2 t (List.mem_of_getElem? ht)
    omega
  · obtain ⟨h1, h2⟩ := List.getElem?_eq_some_iff.1 ht
    obtain ⟨h3, h4⟩ := List.getElem?_eq_some_iff.1 hx
    have := (List.pairwise_iff_getElem.1 hh.2.2.1 (i - 1) i h3 h1 (by omega)).2
    rw [h2, h4] at this
    omega
theorem ri_dup {n i j : Nat} {T : List Tm} {t : Tm} (ht : T[i]? = some t) (hf : (T.take i).findIdx? (isI t.id) = some j) : rightW n T = false := by
  refine decide_eq_false fun hh => ?_
  obtain ⟨h1, h2⟩ := List.getElem?_eq_some_iff.1 ht
  obtain ⟨hj, hp, _⟩ := List.findIdx?_eq_some_iff_getElem.1 hf
  rw [List.length_take] at hj
  rw [List.getElem_take] at hp
  have := (List.pairwise_iff_getElem.1 hh.2.2.1 j i (by omega) h1 (by omega)).1
  rw [h2] at this
  exact this (of_decide_eq_true hp)
theorem ri_end {n i e : Nat} {T : List Tm} (h : RI n T i e) (hi : T.length = i) (hl : i ≤ 64) (hn : n ≤ 4611686018427387904) : rightW n T = true := by
  have hk : T.take i = T := List.take_of_length_le (Nat.le_of_eq hi)
  exact rightW_iff.2 ⟨by omega, hn, by rw [← hk]; exact h.pw, by rw [← hk]; exact h.gt⟩
theorem right_big {n : Nat} {T : List Tm} (h : 4611686018427387904 < n ∨ 64 < T.length) : rightW n T = false := decide_eq_false fun hh => by omega
theorem ts_take {w : World} {A : Option Addr} {n c i : Nat} {T : List Tm} (h : Rs w A (rowsOf tmA T)) (hn : T.length = n) (hi : i ≤ n) (hnc : n ≤ c) (hc : c ≤ maxLen) (hA : A = none → c = 0) : TsS w (.slice A i c) (T.take i) := by
  have hl : (T.take i).length = i := by rw [List.length_take]; omega
  refine ⟨A, c, by rw [hl], fun m u hm => h.rd m u ?_, hA, by rw [hl]; omega, hc⟩
  rw [← rows_take tmE, List.getElem?_take] at hm
  split at hm
  · exact hm
  · cases hm
set_option maxRecDepth 100000 in
set_option maxHeartbeats 8000000 in
theorem right_any (v : Value) (n : Nat) (T : List Tm) (w : World) (hv : WhS w v n T) (hn : n < 18446744073709551616) (hI : ∀ t ∈ T, I64 t.id ∧ t.due < 18446744073709551616) (hl : T.length ≤ 1000) : Calls Try.prog 16 #[v] w fun e w' => e = .returned (.bool (rightW n T)) ∧ Below w.heap.size w w' := by
  obtain ⟨s, rfl, A, c, rfl, hr, hA, hnc, hcm⟩ := hv
  obtain ⟨n1, hnn⟩ : ∃ n1, T.length = n1 := ⟨_, rfl⟩
  have HN := Lib.hid hnn
  rw [hnn] at hl hnc ⊢
  obtain ⟨w1, hw1⟩ : ∃ w1, w.alloc (.cells #[.int .u64 (n : Int), .slice A n1 c] 27) = w1 := ⟨_, rfl⟩
  have HB1 : Hid (Below w.heap.size w w1) := by rw [← hw1]; exact (Below.refl _ _).alloc (Nat.le_refl _) _
  have HX0 : Hid (w1.heap[w.heap.size]? = some (.cells #[.int .u64 (n : Int), .slice A n1 c] 27 (0, 0))) := by rw [← hw1]; exact heap_alloc_new w _
  have HW := Lib.hid hw1
  have HRS := Lib.hid (hr.below HB1.out (Nat.le_refl _))
  have HCM := Lib.hid hcm
  have HA := Lib.hid hA
  have HII := Lib.hid hI
  have hcm2 : c ≤ 9223372036854775807 := by unfold maxLen at hcm; omega
  clear hw1 hnn hr hA hcm hI
  obtain ⟨a0, a1⟩ := two_cells HX0.out
  by_cases hbig : 4611686018427387904 < n
  · have HV := Lib.hid (right_big (T := T) (.inl hbig))
    have hb2 : (4611686018427387904 : Int) < (n : Int) := by omega
    go_enter Try.func16, Try.ntmps16
    go_upto_region 1 with (fail)
    change Code.wp _ _ _ _ (w.alloc (.cells #[.int .u64 (n : Int), .slice A n1 c] 27))
    rw [HW.out]
    clear HW
    go_wp2
    go_ret
    rw [HV.out]
    exact ⟨rfl, HB1.out⟩
  have hb2 : ¬ (4611686018427387904 : Int) < (n : Int) := by omega
  by_cases h64 : 64 < n1
  · have HV := Lib.hid (right_big (n := n) (T := T) (.inr (by rw [HN.out]; exact h64)))
    have h64b : (64 : Int) < (n1 : Int) := by omega
    go_enter Try.func16, Try.ntmps16
    go_upto_region 1 with (fail)
    change Code.wp _ _ _ _ (w.alloc (.cells #[.int .u64 (n : Int), .slice A n1 c] 27))
    rw [HW.out]
    clear HW
    go_wp2
    go_ret
    rw [HV.out]
    exact ⟨rfl, HB1.out⟩
  have h64b : ¬ (64 : Int) < (n1 : Int) := by omega
  go_enter Try.func16, Try.ntmps16
  go_upto_region 1 with (fail)
  change Code.wp _ _ _ _ (w.alloc (.cells #[.int .u64 (n : Int), .slice A n1 c] 27))
  rw [HW.out]
  clear HW
  go_wp2
  go_loopw [3, 21] (fun t3 t21 wr => ∃ i d : Nat, i ≤ n1 ∧ d < 18446744073709551616 ∧ t3 = .int .u64 (d : Int) ∧ t21 = .int .i64 (i : Int) ∧ Hid (RI n T i d) ∧ Hid (Below w1.heap.size w1 wr)) (fun _ t21 _ => n1 - (intOf t21).toNat)
  case atStart => exact ⟨0, n + 1, Nat.zero_le _, by omega, by go_num, rfl, Lib.hid (ri_zero n T), Lib.hid (Below.refl _ _)⟩
  case round =>
    obtain ⟨i, d, hi, hd, rfl, rfl, HRI, HBW⟩ := hrel
    have HXW := Lib.hid (old_below HX0.out HBW.out (row_lt HX0.out))
    clear a0 a1
    by_cases hlt : i < n1
    · obtain ⟨t, ht⟩ : ∃ t, T[i]? = some t := ⟨_, List.getElem?_eq_getElem (by rw [HN.out]; exact hlt)⟩
      have HT := Lib.hid ht
      have htd : t.due < 18446744073709551616 := (HII.out t (List.mem_of_getElem? ht)).2
      have HTW := Lib.hid (HRS.out.below HBW.out (Nat.le_refl _))
      obtain ⟨ad, rfl, hKA⟩ := el_all tmE HTW.out (by omega) ht
      have HEL : Hid (∀ (j : Nat) v, (tmA t)[j]? = some v → wr.cell? ((ad.add (i * 2)).add j) = some v) := hKA wr (Below.refl _ _)
      obtain ⟨w2, hw2⟩ : ∃ w2, wr.alloc (.cells (tmA t) 53) = w2 := ⟨_, rfl⟩
      have HY0 : Hid (w2.heap[wr.heap.size]? = some (.cells (tmA t) 53 (0, 0))) := by rw [← hw2]; exact heap_alloc_new wr _
      have HBR : Hid (Below wr.heap.size wr w2) := by rw [← hw2]; exact (Below.refl _ _).alloc (Nat.le_refl _) _
      have HB2 : Hid (Below w1.heap.size w1 w2) := HBW.out.trans (HBR.out.mono HBW.out.size)
      have HX2 := Lib.hid (old_below HX0.out HB2.out (row_lt HX0.out))
      have HW2 := Lib.hid hw2
      have HBS : Hid (Below w2.heap.size w2 w2) := Below.refl _ _
      have A0 := Lib.hid (var_cell HY0.out 0 (tmA_id t))
      have A1 := Lib.hid (var_cell HY0.out 1 (tmA_due t))
      have A2 : Hid (∀ w', Below w2.heap.size w2 w' → w'.cell? ⟨wr.heap.size, 1, none⟩ = some (.int .u64 (t.due : Int))) := fun w' hb => by have := var_all HY0.out w' hb 1 _ (tmA_due t); rwa [Addr.add_mid] at this
      have KS := Lib.hid (var_cell HX2.out 1 (v := .slice (some ad) n1 c) rfl)
      have HPL : Hid (∀ w', Below w2.heap.size w2 w' → Calls Try.prog 23 #[.slice (some ad) i c, .int .i64 t.id] w' fun e w'' => e = .returned (.int .i64 (idxV (isI t.id) (T.take i))) ∧ Below w'.heap.size w' w'') := fun w' hb => place_any _ _ _ w' (ts_take ((HRS.out.below HB2.out (Nat.le_refl _)).below hb (Nat.le_refl _)) HN.out hi hnc HCM.out HA.out) (by rw [List.length_take]; omega)
      have HRO : Hid ((tmA t).all (·.oneCell') = true) := tmE.one t
      have HRS2 : Hid ((tmA t).size = 2) := tmE.size t
      obtain ⟨CR, hCR⟩ : ∃ CR, tmA t = CR := ⟨_, rfl⟩
      rw [hCR] at HEL HRO HRS2 HY0 HW2
      clear hw2 ht hCR hKA
      by_cases hde : t.due < d
      · have HV := Lib.hid (ri_due HRI.out HT.out hde)
        have hdi : (t.due : Int) < (d : Int) := by omega
        obtain ⟨z, hz⟩ : ∃ z, t.due = z := ⟨_, rfl⟩
        obtain ⟨y, hy⟩ : ∃ y, t.id = y := ⟨_, rfl⟩
        rw [hz] at A1 A2 hdi
        rw [hy] at A0 HPL
        clear hz hy hde
        go_upto_region 7 with (first | (refine wpList_load_atA rfl 53 _ rfl (ad.add (i * 2)) rfl CR _ HEL.out Try.underlying53 rfl (by rw [HRS2.out]; kernel_rfl) ?_) | (refine wpList_store_new rfl 53 _ _ rfl wr zeroW CR rfl rfl (by rw [HRS2.out]; kernel_rfl) (by rw [HRS2.out]; rfl) HRO.out ?_))
        change Code.wp _ _ _ _ (wr.alloc (.cells CR 53))
        rw [HW2.out]
        clear HW2
        refine wp_region_quiet_below (by kernel_rfl) (by kernel_rfl) ?_
        (first | go_big_quiet_step (fail) | quiet_step (fail))
        (refine wpQuiet_step (fun K hK => ?_); refine quiet_load_cell (by kernel_rfl) 22 _ rfl ((⟨wr.heap.size, 0, none⟩ : Addr).add 1) (by first | rfl | (simp [Act.eval, Addr.add_mid])) (.int .u64 (z : Int)) _ A1.out Try.underlying22 rfl ?_; refine hK _ ?_; clear hK K; go_frame)
        (first | go_big_quiet_step (fail) | quiet_step (fail))
        (first | go_big_quiet_step (fail) | quiet_step (fail))
        (first | go_big_quiet_step (fail) | quiet_step (fail))
        (first | go_big_quiet_step (fail) | quiet_step (fail))
        (first | go_big_quiet_step (fail) | quiet_step (fail))
        (first | go_big_quiet_step (fail) | quiet_step (fail))
        (first | go_big_quiet_step (fail) | quiet_step (fail))
        (first | go_big_quiet_step (fail) | quiet_step (fail))
        (first | go_big_quiet_step (fail) | quiet_step (fail))
        (first | go_big_quiet_step (fail) | quiet_step (fail))
        (first | go_big_quiet_step (fail) | quiet_step (fail))
        (first | go_big_quiet_step (fail) | quiet_step (fail))
        refine wpQuiet_nil ?_
        intro w9 hw9
        obtain ⟨⟨dq, osq⟩, rfl⟩ := hw9
        have HB3 := Lib.hid ((HBS.out).trans ((below_regrown w2 dq osq).mono (HBS.out).size))
        generalize Sort.grow (redrawn w2 dq) osq = w3 at *
        go_wp2
        go_ret
        rw [HV.out]
        exact ⟨rfl, (HB1.out.trans (HB2.out.mono HB1.out.size)).trans (HB3.out.mono (HB1.out.trans (HB2.out.mono HB1.out.size)).size)⟩
      · have hdi : ¬ (t.due : Int) < (d : Int) := by omega
        rcases idxV_cases (isI t.id) (T.take i) with ⟨hix, hf⟩ | ⟨j, hix, hin, hf⟩
        · have HNX := Lib.hid (ri_next HRI.out HT.out (by omega) hf)
          rw [hix] at HPL
          obtain ⟨z, hz⟩ : ∃ z, t.due = z := ⟨_, rfl⟩
          obtain ⟨y, hy⟩ : ∃ y, t.id = y := ⟨_, rfl⟩
          rw [hz] at A1 A2 hdi htd HNX
          rw [hy] at A0 HPL
          clear hz hy hde hix hf
          go_upto_region 7 with (first | (refine wpList_load_atA rfl 53 _ rfl (ad.add (i * 2)) rfl CR _ HEL.out Try.underlying53 rfl (by rw [HRS2.out]; kernel_rfl) ?_) | (refine wpList_store_new rfl 53 _ _ rfl wr zeroW CR rfl rfl (by rw [HRS2.out]; kernel_rfl) (by rw [HRS2.out]; rfl) HRO.out ?_))
          change Code.wp _ _ _ _ (wr.alloc (.cells CR 53))
          rw [HW2.out]
          clear HW2
          refine wp_region_quiet_below (by kernel_rfl) (by kernel_rfl) ?_
          (first | go_big_quiet_step (fail) | quiet_step (fail))
          (refine wpQuiet_step (fun K hK => ?_); refine quiet_load_cell (by kernel_rfl) 22 _ rfl ((⟨wr.heap.size, 0, none⟩ : Addr).add 1) (by first | rfl | (simp [Act.eval, Addr.add_mid])) (.int .u64 (z : Int)) _ A1.out Try.underlying22 rfl ?_; refine hK _ ?_; clear hK K; go_frame)
          (first | go_big_quiet_step (fail) | quiet_step (fail))
          (first | go_big_quiet_step (fail) | quiet_step (fail))
          (first | go_big_quiet_step (fail) | quiet_step (fail))
          (first | go_big_quiet_step (fail) | quiet_step (fail))
          (refine wpQuiet_step (fun K hK => ?_); refine quiet_load_cell (by kernel_rfl) 25 _ rfl ((⟨w.heap.size, 0, none⟩ : Addr).add 1) (by first | rfl | (simp [Act.eval, Addr.add_mid])) (.slice (some ad) n1 c) _ KS.out Try.underlying25 rfl ?_; refine hK _ ?_; clear hK K; go_frame)
          (first | go_big_quiet_step (fail) | quiet_step (fail))
          (first | go_big_quiet_step (fail) | quiet_step (fail))
          (first | go_big_quiet_step (fail) | quiet_step (fail))
          (refine wpQuiet_step (fun K hK => ?_); refine quiet_load_cell (by kernel_rfl) 3 _ rfl (⟨wr.heap.size, 0, none⟩ : Addr) (by first | rfl | (simp [Act.eval, Addr.add_mid])) (.int .i64 y) _ A0.out Try.underlying3 rfl ?_; refine hK _ ?_; clear hK K; go_frame)
          quiet_step (first | (go_at_call 23; exact Calls.regrown_of (HPL.out _ (below_regrown w2 _ _))))
          (first | go_big_quiet_step (fail) | quiet_step (fail))
          (first | go_big_quiet_step (fail) | quiet_step (fail))
          refine wpQuiet_nil ?_
          intro w9 hw9
          obtain ⟨⟨dq, osq⟩, rfl⟩ := hw9
          have HB3 := Lib.hid ((HBS.out).trans ((below_regrown w2 dq osq).mono (HBS.out).size))
          generalize Sort.grow (redrawn w2 dq) osq = w3 at *
          have HBN := Lib.hid (HB2.out.trans (HB3.out.mono HB2.out.size))
          have c1 : w3.cell? ⟨wr.heap.size, 1, none⟩ = some (.int .u64 (z : Int)) := A2.out w3 HB3.out
          go_wp2
          go_roundw
          case rel => exact ⟨i + 1, z, by omega, htd, rfl, by go_num, HNX, HBN⟩
          case measure => simp [intOf]; omega
        · have HV := Lib.hid (ri_dup (n := n) HT.out hf)
          have hj0 : (0 : Int) ≤ (j : Int) := by omega
          rw [hix] at HPL
          obtain ⟨z, hz⟩ : ∃ z, t.due = z := ⟨_, rfl⟩
          obtain ⟨y, hy⟩ : ∃ y, t.id = y := ⟨_, rfl⟩
          rw [hz] at A1 A2 hdi htd
          rw [hy] at A0 HPL
          clear hz hy hde hix hf
          go_upto_region 7 with (first | (refine wpList_load_atA rfl 53 _ rfl (ad.add (i * 2)) rfl CR _ HEL.out Try.underlying53 rfl (by rw [HRS2.out]; kernel_rfl) ?_) | (refine wpList_store_new rfl 53 _ _ rfl wr zeroW CR rfl rfl (by rw [HRS2.out]; kernel_rfl) (by rw [HRS2.out]; rfl) HRO.out ?_))
          change Code.wp _ _ _ _ (wr.alloc (.cells CR 53))
          rw [HW2.out]
          clear HW2
          refine wp_region_quiet_below (by kernel_rfl) (by kernel_rfl) ?_
          (first | go_big_quiet_step (fail) | quiet_step (fail))
          (refine wpQuiet_step (fun K hK => ?_); refine quiet_load_cell (by kernel_rfl) 22 _ rfl ((⟨wr.heap.size, 0, none⟩ : Addr).add 1) (by first | rfl | (simp [Act.eval, Addr.add_mid])) (.int .u64 (z : Int)) _ A1.out Try.underlying22 rfl ?_; refine hK _ ?_; clear hK K; go_frame)
          (first | go_big_quiet_step (fail) | quiet_step (fail))
          (first | go_big_quiet_step (fail) | quiet_step (fail))
          (first | go_big_quiet_step (fail) | quiet_step (fail))
          (first | go_big_quiet_step (fail) | quiet_step (fail))
          (refine wpQuiet_step (fun K hK => ?_); refine quiet_load_cell (by kernel_rfl) 25 _ rfl ((⟨w.heap.size, 0, none⟩ : Addr).add 1) (by first | rfl | (simp [Act.eval, Addr.add_mid])) (.slice (some ad) n1 c) _ KS.out Try.underlying25 rfl ?_; refine hK _ ?_; clear hK K; go_frame)
          (first | go_big_quiet_step (fail) | quiet_step (fail))
          (first | go_big_quiet_step (fail) | quiet_step (fail))
          (first | go_big_quiet_step (fail) | quiet_step (fail))
          (refine wpQuiet_step (fun K hK => ?_); refine quiet_load_cell (by kernel_rfl) 3 _ rfl (⟨wr.heap.size, 0, none⟩ : Addr) (by first | rfl | (simp [Act.eval, Addr.add_mid])) (.int .i64 y) _ A0.out Try.underlying3 rfl ?_; refine hK _ ?_; clear hK K; go_frame)
          quiet_step (first | (go_at_call 23; exact Calls.regrown_of (HPL.out _ (below_regrown w2 _ _))))
          (first | go_big_quiet_step (fail) | quiet_step (fail))
          (first | go_big_quiet_step (fail) | quiet_step (fail))
          refine wpQuiet_nil ?_
          intro w9 hw9
          obtain ⟨⟨dq, osq⟩, rfl⟩ := hw9
          have HB3 := Lib.hid ((HBS.out).trans ((below_regrown w2 dq osq).mono (HBS.out).size))
          generalize Sort.grow (redrawn w2 dq) osq = w3 at *
          go_wp2
          go_ret
          rw [HV.out]
          exact ⟨rfl, (HB1.out.trans (HB2.out.mono HB1.out.size)).trans (HB3.out.mono (HB1.out.trans (HB2.out.mono HB1.out.size)).size)⟩
    · obtain rfl : i = n1 := by omega
      have HV := Lib.hid (ri_end HRI.out HN.out (by omega) (by omega))
      go_wp2
      go_ret
      rw [HV.out]
      exact ⟨rfl, HB1.out.trans (HBW.out.mono HB1.out.size)⟩
end Go.Proofs.Ytljochpomgjjeaa
