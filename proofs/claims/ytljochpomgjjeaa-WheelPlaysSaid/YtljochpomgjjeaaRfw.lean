/-
  The document's without, Set, Stop of wheels. Every wheel of at most 1000 timers.
-/
import Derived.Test.YtljochpomgjjeaaTm
namespace Go.Proofs.Ytljochpomgjjeaa
open Go.RowKit

theorem row2 {w : World} {g : Nat} {t : TypeId} {u0 u1 : Value} (h : w.heap[g]? = some (.cells #[u0, u1] t (0, 0))) {v : Value} : w.setCell ⟨g, 1, none⟩ v = w.setRow g #[u0, v] := by
  rw [setCell_eq_setRow w g 1 _ t (0, 0) v h]
  rfl
theorem wh_one {n : Int} {s : Value} (h : s.oneCell' = true) : (#[.int .u64 n, s] : Array Value).all (·.oneCell') = true := by
  have h0 : (Value.int .u64 n).oneCell' = true := rfl
  simp [h, h0]
set_option maxRecDepth 100000 in
set_option maxHeartbeats 4000000 in
theorem without_any (v : Value) (S : List Tm) (id : Int) (w : World) (hv : TsS w v S) (hl : S.length ≤ 1000) :
    Calls Try.prog 22 #[v, .int .i64 id] w fun e w' => ∃ v', e = .returned v' ∧ w'.ownsRow w.heap.size 53 2 v' (S.filter (notI id)).length (rowsOf tmA (S.filter (notI id))) ∧ Below w.heap.size w w' := by
  obtain ⟨A, c, rfl, htr, -, hnc, hcm⟩ := hv
  obtain ⟨n, hnn⟩ : ∃ n, S.length = n := ⟨_, rfl⟩
  rw [hnn] at hl hnc ⊢
  have HN := Lib.hid hnn
  have hcm2 : c ≤ 9223372036854775807 := by unfold maxLen at hcm; omega
  have HTR := Lib.hid htr
  clear hnn htr hcm
  go_enter Try.func22, Try.ntmps22
  go_wp2
  go_loopw [5, 6] (fun t5 t6 wr => ∃ i m : Nat, i ≤ n ∧ m ≤ i ∧ t6 = .int .i64 (i : Int) ∧ Hid (((S.take i).filter (notI id)).length = m) ∧ Hid (wr.ownsRow w.heap.size 53 2 t5 m (rowsOf tmA ((S.take i).filter (notI id)))) ∧ Hid (Below w.heap.size w wr)) (fun _ t6 _ => n - (intOf t6).toNat)
  case atStart => exact ⟨0, 0, Nat.zero_le _, Nat.le_refl _, rfl, Lib.hid rfl, Lib.hid (World.ownsRow_nil _ _ _ _), Lib.hid (Below.refl _ _)⟩
  case round =>
    obtain ⟨i, m, hi, hm, rfl, HM, HOW, HBW⟩ := hrel
    generalize u5 = v5 at HOW ⊢
    by_cases hlt : i < n
    · obtain ⟨x, hx⟩ : ∃ x, S[i]? = some x := ⟨_, List.getElem?_eq_getElem (by rw [HN.out]; exact hlt)⟩
      obtain ⟨ad, rfl, hKA⟩ := el_all tmE HTR.out (by omega) hx
      have HKC := Lib.hid (hKA wr HBW.out)
      have HFS := Lib.hid (filter_snoc (p := notI id) hx)
      have hc0 : wr.cell? (ad.add (i * 2)) = some (.int .i64 x.id) := by
        have := HKC.out 0 _ (tmA_id x)
        rwa [add_twice, Nat.add_zero] at this
      have HSX : Hid ((tmA x).size = 2) := tmE.size x
      have HOX : Hid (∀ u ∈ (tmA x).toList, u.oneCell' = true) := el_ones tmE x
      have HRX : Hid (∀ L, rowsOf tmA (L ++ [x]) = rowsOf tmA L ++ (tmA x).toList) := fun L => by rw [rows_append, rows_one_el]
      have HNI : Hid (notI id x = decide (x.id ≠ id)) := rfl
      obtain ⟨z, hz⟩ : ∃ z, x.id = z := ⟨_, rfl⟩
      rw [hz] at hc0 HNI
      obtain ⟨CX, hCX⟩ : ∃ CX, tmA x = CX := ⟨_, rfl⟩
      rw [hCX] at HKC HSX HOX HRX
      obtain ⟨i0, q0, q1, q2, q3⟩ := info_tm2
      clear hx hKA hz hCX
      by_cases hid : z = id
      · have HF2 : Hid ((S.take (i + 1)).filter (notI id) = (S.take i).filter (notI id)) := by
          show _ = _
          rw [HFS.out, HNI.out, decide_eq_false (by simp [hid])]
          simp
        subst hid
        go_wp2
        go_roundw
        case rel => exact ⟨i + 1, m, by omega, by omega, by go_num, by rw [HF2.out]; exact HM, by rw [HF2.out]; exact HOW, HBW⟩
        case measure => simp [intOf]; omega
      · have HF2 : Hid ((S.take (i + 1)).filter (notI id) = (S.take i).filter (notI id) ++ [x]) := by
          show _ = _
          rw [HFS.out, HNI.out, decide_eq_true hid, if_pos rfl]
        go_wp2_with (first | (refine wpList_load_atA rfl 53 _ rfl (ad.add (i * 2)) rfl CX _ HKC.out Try.underlying53 rfl (by rw [HSX.out]; kernel_rfl) ?_) | (refine wpList_build_one rfl 25 53 _ rfl CX rfl Try.underlying25 2 (by decide) (by decide) (by kernel_rfl) HSX.out ?_) | (at_builtin; refine wpList_append_elem rfl _ _ 25 rfl w.heap.size 53 i0 _ 2 16 Try.underlying25 q0 q1 q2 q3 rfl (by decide) _ m _ rfl (ownk_below HOW.out ((Below.refl _ _).alloc (Nat.le_refl _) _) (Nat.le_refl _)) _ 1 CX _ _ rfl (heap_alloc_new _ _) HSX.out HOX.out (by unfold maxLen; omega) (by omega) (by have := HBW.out.size; simp; omega) ?_; intro v8 w8 hown6 hgrow6 _; have HO8 := Lib.hid hown6; have HB8 : Hid (Below w.heap.size w w8) := (HBW.out.alloc HBW.out.size _).grown hgrow6 (by have := HBW.out.size; simp; omega) fun g hg => (HOW.out.lt g hg).1; clear hown6 hgrow6))
        go_roundw
        case rel => exact ⟨i + 1, m + 1, by omega, by omega, by go_num, Lib.hid (by show List.length _ = _; rw [HF2.out, List.length_append, HM.out]; rfl), Lib.hid (by show World.ownsRow _ _ _ _ _ _ _; rw [HF2.out, HRX.out]; exact HO8.out), HB8⟩
        case measure => simp [intOf]; omega
    · obtain rfl : i = n := by omega
      have HTK : Hid (S.take i = S) := List.take_of_length_le (Nat.le_of_eq HN.out)
      rw [HTK.out] at HM HOW
      go_wp2
      go_ret
      exact ⟨_, rfl, by rw [HM.out]; exact HOW.out, HBW.out⟩

set_option maxRecDepth 100000 in
set_option maxHeartbeats 8000000 in
theorem refset_any (v : Value) (n : Nat) (S : List Tm) (id : Int) (after : Nat) (w : World) (hv : WhT w v n S) (hl : S.length ≤ 1000) (hn : n ≤ 4611686018427387904) (ha : after < 18446744073709551616) :
    Calls Try.prog 10 #[v, .int .i64 id, .int .u64 (after : Int)] w fun e w' => ∃ v', e = .returned (.tuple #[v', .int .i64 (setD n S id after).2]) ∧ WhT w' v' n (setD n S id after).1 ∧ Below w.heap.size w w' := by
  obtain ⟨s, rfl, hs⟩ := hv
  have HS := Lib.hid hs
  have hso := hs.one
  have HLEN := Lib.hid hl
  clear hs hl
  obtain ⟨w1, hw1⟩ : ∃ w1, (w.alloc (.cells #[.int .u64 (n : Int), s] 29)).alloc (.cells #[.int .u64 0, .slice none 0 0] 29) = w1 := ⟨_, rfl⟩
  have HB1 : Hid (Below w.heap.size w w1) := by rw [← hw1]; exact ((Below.refl _ _).alloc (Nat.le_refl _) _).alloc (by simp) _
  have HX0 : Hid (w1.heap[w.heap.size]? = some (.cells #[.int .u64 (n : Int), s] 29 (0, 0))) := by rw [← hw1]; exact old_alloc (heap_alloc_new w _) _
  have HX1 : Hid (w1.heap[w.heap.size + 1]? = some (.cells #[.int .u64 0, .slice none 0 0] 29 (0, 0))) := by rw [← hw1]; exact new_at1 w _ _
  have HW := Lib.hid hw1
  have HS1 := Lib.hid (HS.out.below HB1.out)
  obtain ⟨g, hg⟩ : ∃ g, w.heap.size + 1 = g := ⟨_, rfl⟩
  rw [hg] at HX1
  have HG := Lib.hid hg
  have HNE : Hid (w.heap.size ≠ g) := by show _ ≠ _; omega
  clear hw1 hg
  have HWO : Hid (Calls Try.prog 22 #[s, .int .i64 id] w1 fun e w' => ∃ v', e = .returned v' ∧ w'.ownsRow w1.heap.size 53 2 v' (S.filter (notI id)).length (rowsOf tmA (S.filter (notI id))) ∧ Below w1.heap.size w1 w') := without_any s S id w1 HS1.out.slt HLEN.out
  have HLF : Hid ((S.filter (notI id)).length ≤ S.length) := List.length_filter_le _ _
  obtain ⟨a0, a1⟩ := two_cells HX0.out
  by_cases hbig : 4611686018427387904 < after
  · have HRES : Hid (setD n S id after = (S, 1)) := if_pos hbig
    have hb2 : (4611686018427387904 : Int) < (after : Int) := by omega
    go_enter Try.func10, Try.ntmps10
    go_upto_region 1 with (fail)
    change Code.wp _ _ _ _ ((w.alloc (.cells #[.int .u64 (n : Int), s] 29)).alloc (.cells #[.int .u64 0, .slice none 0 0] 29))
    rw [HW.out, HG.out]
    go_wp2_with (first | (refine wpList_load_row rfl 29 _ rfl w.heap.size rfl 29 #[.int .u64 (n : Int), s] (0, 0) _ HX0.out Try.underlying29 rfl (by kernel_rfl) ?_) | (refine wpList_store_row rfl 29 _ _ rfl g #[.int .u64 (n : Int), s] rfl rfl 29 #[.int .u64 0, .slice none 0 0] HX1.out (by kernel_rfl) rfl (wh_one hso) ?_))
    refine ret_two (g := g) rfl rfl (setRow_heap _ _ _ _ _ _ HX1.out) Try.underlying29 rfl (by kernel_rfl) rfl ?_
    rw [HRES.out]
    exact ⟨_, rfl, ⟨s, rfl, HS1.out.setRow HX1.out (by decide) _⟩, below_setRow HB1.out (by have := HG.out; omega) _⟩
  · have hb2 : ¬ (4611686018427387904 : Int) < (after : Int) := by omega
    have HD : Hid (setD n S id after = if 64 ≤ (S.filter (notI id)).length then (S, 5) else (S.filter (notI id) ++ [⟨id, n + max after 1⟩], 0)) := if_neg hbig
    obtain ⟨F, hF⟩ : ∃ F, S.filter (notI id) = F := ⟨_, rfl⟩
    rw [hF] at HWO HLF HD
    obtain ⟨k, hk⟩ : ∃ k, F.length = k := ⟨_, rfl⟩
    rw [hk] at HWO HLF HD
    have HKL := Lib.hid hk
    have hk1000 : k ≤ 1000 := Nat.le_trans HLF.out HLEN.out
    clear hF hk
    go_enter Try.func10, Try.ntmps10
    go_upto_region 1 with (fail)
    change Code.wp _ _ _ _ ((w.alloc (.cells #[.int .u64 (n : Int), s] 29)).alloc (.cells #[.int .u64 0, .slice none 0 0] 29))
    rw [HW.out, HG.out]
    go_wp2_with fail
    refine HWO.out.mono ?_
    rintro e w2 ⟨v2, rfl, hown, hb⟩
    obtain ⟨A2, c2, rfl, h2c, hc2, -⟩ := ownk_form hown
    have hc2b : c2 ≤ 9223372036854775807 := by unfold maxLen at hc2; omega
    have HO2 := Lib.hid hown
    have HX02 := Lib.hid (old_below HX0.out hb (row_lt HX0.out))
    have HX12 := Lib.hid (old_below HX1.out hb (row_lt HX1.out))
    have HS2 := Lib.hid (HS1.out.below hb)
    have HBN := Lib.hid hb
    have HB2 := Lib.hid (HB1.out.trans (hb.mono HB1.out.size))
    have HLT0 := Lib.hid (row_lt HX0.out)
    have HLT1 := Lib.hid (row_lt HX1.out)
    have HXA := HX0
    have HXB := HX1
    clear a0 a1 hown hb HX0 HX1 HS1 HWO hc2
    obtain ⟨a0, a1⟩ := two_cells HX02.out
    by_cases h64 : 64 ≤ k
    · have HRES : Hid (setD n S id after = (S, 5)) := by show _ = _; rw [HD.out, if_pos h64]
      have h64b : (64 : Int) ≤ (k : Int) := by omega
      go_wp2_with (first | (refine wpList_load_row rfl 29 _ rfl w.heap.size rfl 29 #[.int .u64 (n : Int), s] (0, 0) _ HX02.out Try.underlying29 rfl (by kernel_rfl) ?_) | (refine wpList_store_row rfl 29 _ _ rfl g #[.int .u64 (n : Int), s] rfl rfl 29 #[.int .u64 0, .slice none 0 0] HX12.out (by kernel_rfl) rfl (wh_one hso) ?_))
      refine ret_two (g := g) rfl rfl (setRow_heap _ _ _ _ _ _ HX12.out) Try.underlying29 rfl (by kernel_rfl) rfl ?_
      rw [HRES.out]
      exact ⟨_, rfl, ⟨s, rfl, HS2.out.setRow HX12.out (by decide) _⟩, below_setRow HB2.out (by have := HG.out; omega) _⟩
    · have h64b : ¬ (64 : Int) ≤ (k : Int) := by omega
      have HRES : Hid (setD n S id after = (F ++ [⟨id, n + max after 1⟩], 0)) := by show _ = _; rw [HD.out, if_neg h64]
      obtain ⟨i0, q0, q1, q2, q3⟩ := info_tm2
      have HFL : Hid ((F ++ [(⟨id, n + max after 1⟩ : Tm)]).length = k + 1) := by show _ = _; rw [List.length_append, HKL.out]; rfl
      obtain ⟨a, haf⟩ : ∃ a, max after 1 = a := ⟨_, rfl⟩
      rw [haf] at HRES HFL
      have ha1 : a < 4611686018427387905 := by omega
      have HRW : Hid (rowsOf tmA (F ++ [⟨id, n + a⟩]) = rowsOf tmA F ++ (#[.int .i64 id, .int .u64 ((n : Int) + (a : Int))] : Array Value).toList) := by
        show _ = _
        rw [rows_append, rows_one_el]
        rfl
      rcases Nat.eq_zero_or_pos after with h0 | h0
      · obtain rfl : after = 0 := h0
        obtain rfl : a = 1 := by omega
        have HRW1 : Hid (rowsOf tmA (F ++ [⟨id, n + 1⟩]) = rowsOf tmA F ++ (#[.int .i64 id, .int .u64 ((n : Int) + 1)] : Array Value).toList) := HRW.out
        go_upto_region 9 with (first | (refine wpList_build_one rfl 25 53 _ rfl #[.int .i64 id, .int .u64 ((n : Int) + 1)] rfl Try.underlying25 2 (by decide) (by decide) (by kernel_rfl) rfl ?_) | (at_builtin; refine wpList_append_elem rfl _ _ 25 rfl w1.heap.size 53 i0 _ 2 16 Try.underlying25 q0 q1 q2 q3 rfl (by decide) _ k (rowsOf tmA F) rfl (ownk_below HO2.out ((Below.refl _ _).alloc (Nat.le_refl _) _) (Nat.le_refl _)) _ 1 #[.int .i64 id, .int .u64 ((n : Int) + 1)] _ _ rfl (heap_alloc_new _ _) rfl (by intro u hu; simp at hu; rcases hu with rfl | rfl <;> rfl) (by unfold maxLen; omega) (by omega) (by have := HBN.out.size; simp; omega) ?_; intro v6 w6 hown6 hgrow6 _; have HO6 := Lib.hid hown6; have HBN6 : Hid (Below w1.heap.size w1 w6) := (HBN.out.alloc HBN.out.size _).grown hgrow6 (by have := HBN.out.size; simp; omega) fun g hg => (HO2.out.lt g hg).1; clear hown6 hgrow6; obtain ⟨A6, c6, rfl, -⟩ := ownk_form HO6.out; have HX06 := Lib.hid ((HBN6.out.block _ HLT0.out).trans HXA.out); have HX16 := Lib.hid ((HBN6.out.block _ HLT1.out).trans HXB.out); have HE6 : Hid ((w6.setCell ⟨w.heap.size, 1, none⟩ (.slice A6 (k + 1) c6)) = w6.setRow w.heap.size #[.int .u64 (n : Int), .slice A6 (k + 1) c6]) := row2 HX06.out; have hfz := frozen_of_row w6 w.heap.size 1 _ _ HX06.out; obtain ⟨b0, b1⟩ := two_cells HX06.out) | go_in)
        rw [HE6.out]
        clear hfz b0 b1
        have HX07 : Hid ((w6.setRow w.heap.size #[.int .u64 (n : Int), .slice A6 (k + 1) c6]).heap[w.heap.size]? = some (.cells #[.int .u64 (n : Int), .slice A6 (k + 1) c6] 29 (0, 0))) := setRow_heap _ _ _ _ _ _ HX06.out
        have HX17 : Hid ((w6.setRow w.heap.size #[.int .u64 (n : Int), .slice A6 (k + 1) c6]).heap[g]? = some (.cells #[.int .u64 0, .slice none 0 0] 29 (0, 0))) := (setRow_other _ _ _ _ (Ne.symm HNE.out)).trans HX16.out
        have HO7 : Hid ((w6.setRow w.heap.size #[.int .u64 (n : Int), .slice A6 (k + 1) c6]).ownsRow w1.heap.size 53 2 (.slice A6 (k + 1) c6) (k + 1) _) := ownk_other HO6.out HX06.out (by decide) fun j hj => setRow_other _ _ _ _ hj
        have HB7 := Lib.hid (below_setRow (HB1.out.trans (HBN6.out.mono HB1.out.size)) (Nat.le_refl _) #[.int .u64 (n : Int), .slice A6 (k + 1) c6])
        generalize w6.setRow w.heap.size #[.int .u64 (n : Int), .slice A6 (k + 1) c6] = w7 at HX07 HX17 HO7 HB7 ⊢
        clear HO6 HE6 HBN6 HX06 HX16 q0 q1 q2 q3
        go_wp2_with (first | (refine wpList_load_row rfl 29 _ rfl w.heap.size rfl 29 #[.int .u64 (n : Int), .slice A6 (k + 1) c6] (0, 0) _ HX07.out Try.underlying29 rfl (by kernel_rfl) ?_) | (refine wpList_store_row rfl 29 _ _ rfl g #[.int .u64 (n : Int), .slice A6 (k + 1) c6] rfl rfl 29 #[.int .u64 0, .slice none 0 0] HX17.out (by kernel_rfl) rfl (by simp [Value.oneCell']) ?_))
        refine ret_two (g := g) rfl rfl (setRow_heap _ _ _ _ _ _ HX17.out) Try.underlying29 rfl (by kernel_rfl) rfl ?_
        rw [HRES.out]
        refine ⟨_, rfl, ⟨_, rfl, TlT.own (base := w1.heap.size) (k := 2) ?_⟩, below_setRow HB7.out (by have := HG.out; omega) _⟩
        rw [HFL.out, HRW1.out]
        exact ownk_other HO7.out HX17.out (by decide) fun j hj => setRow_other _ _ _ _ hj
      · obtain rfl : a = after := by omega
        have h0b : ¬ (a : Int) = 0 := by omega
        go_upto_region 9 with (first | (refine wpList_build_one rfl 25 53 _ rfl #[.int .i64 id, .int .u64 ((n : Int) + (a : Int))] rfl Try.underlying25 2 (by decide) (by decide) (by kernel_rfl) rfl ?_) | (at_builtin; refine wpList_append_elem rfl _ _ 25 rfl w1.heap.size 53 i0 _ 2 16 Try.underlying25 q0 q1 q2 q3 rfl (by decide) _ k (rowsOf tmA F) rfl (ownk_below HO2.out ((Below.refl _ _).alloc (Nat.le_refl _) _) (Nat.le_refl _)) _ 1 #[.int .i64 id, .int .u64 ((n : Int) + (a : Int))] _ _ rfl (heap_alloc_new _ _) rfl (by intro u hu; simp at hu; rcases hu with rfl | rfl <;> rfl) (by unfold maxLen; omega) (by omega) (by have := HBN.out.size; simp; omega) ?_; intro v6 w6 hown6 hgrow6 _; have HO6 := Lib.hid hown6; have HBN6 : Hid (Below w1.heap.size w1 w6) := (HBN.out.alloc HBN.out.size _).grown hgrow6 (by have := HBN.out.size; simp; omega) fun g hg => (HO2.out.lt g hg).1; clear hown6 hgrow6; obtain ⟨A6, c6, rfl, -⟩ := ownk_form HO6.out; have HX06 := Lib.hid ((HBN6.out.block _ HLT0.out).trans HXA.out); have HX16 := Lib.hid ((HBN6.out.block _ HLT1.out).trans HXB.out); have HE6 : Hid ((w6.setCell ⟨w.heap.size, 1, none⟩ (.slice A6 (k + 1) c6)) = w6.setRow w.heap.size #[.int .u64 (n : Int), .slice A6 (k + 1) c6]) := row2 HX06.out; have hfz := frozen_of_row w6 w.heap.size 1 _ _ HX06.out; obtain ⟨b0, b1⟩ := two_cells HX06.out) | go_in)
        rw [HE6.out]
        clear hfz b0 b1
        have HX07 : Hid ((w6.setRow w.heap.size #[.int .u64 (n : Int), .slice A6 (k + 1) c6]).heap[w.heap.size]? = some (.cells #[.int .u64 (n : Int), .slice A6 (k + 1) c6] 29 (0, 0))) := setRow_heap _ _ _ _ _ _ HX06.out
        have HX17 : Hid ((w6.setRow w.heap.size #[.int .u64 (n : Int), .slice A6 (k + 1) c6]).heap[g]? = some (.cells #[.int .u64 0, .slice none 0 0] 29 (0, 0))) := (setRow_other _ _ _ _ (Ne.symm HNE.out)).trans HX16.out
        have HO7 : Hid ((w6.setRow w.heap.size #[.int .u64 (n : Int), .slice A6 (k + 1) c6]).ownsRow w1.heap.size 53 2 (.slice A6 (k + 1) c6) (k + 1) _) := ownk_other HO6.out HX06.out (by decide) fun j hj => setRow_other _ _ _ _ hj
        have HB7 := Lib.hid (below_setRow (HB1.out.trans (HBN6.out.mono HB1.out.size)) (Nat.le_refl _) #[.int .u64 (n : Int), .slice A6 (k + 1) c6])
        generalize w6.setRow w.heap.size #[.int .u64 (n : Int), .slice A6 (k + 1) c6] = w7 at HX07 HX17 HO7 HB7 ⊢
        clear HO6 HE6 HBN6 HX06 HX16 q0 q1 q2 q3
        go_wp2_with (first | (refine wpList_load_row rfl 29 _ rfl w.heap.size rfl 29 #[.int .u64 (n : Int), .slice A6 (k + 1) c6] (0, 0) _ HX07.out Try.underlying29 rfl (by kernel_rfl) ?_) | (refine wpList_store_row rfl 29 _ _ rfl g #[.int .u64 (n : Int), .slice A6 (k + 1) c6] rfl rfl 29 #[.int .u64 0, .slice none 0 0] HX17.out (by kernel_rfl) rfl (by simp [Value.oneCell']) ?_))
        refine ret_two (g := g) rfl rfl (setRow_heap _ _ _ _ _ _ HX17.out) Try.underlying29 rfl (by kernel_rfl) rfl ?_
        rw [HRES.out]
        refine ⟨_, rfl, ⟨_, rfl, TlT.own (base := w1.heap.size) (k := 2) ?_⟩, below_setRow HB7.out (by have := HG.out; omega) _⟩
        rw [HFL.out, HRW.out]
        exact ownk_other HO7.out HX17.out (by decide) fun j hj => setRow_other _ _ _ _ hj
end Go.Proofs.Ytljochpomgjjeaa
