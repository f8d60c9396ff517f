/-
  The code's Set of wheels. Every right wheel.
-/
import Derived.Test.YtljochpomgjjeaaRwd
import Derived.Test.YtljochpomgjjeaaInW
import Derived.Test.YtljochpomgjjeaaFld
import Derived.Test.YtljochpomgjjeaaRelyL
namespace Go.Proofs.Ytljochpomgjjeaa
open Go.RowKit

theorem while_cut {α : Type} (p : α → Bool) (K : List α) : K.takeWhile p = K.take (K.takeWhile p).length ∧ K.dropWhile p = K.drop (K.takeWhile p).length := by
  have h := List.takeWhile_append_dropWhile (p := p) (l := K)
  have h1 : List.take (K.takeWhile p).length (K.takeWhile p ++ K.dropWhile p) = K.takeWhile p := List.take_left' rfl
  have h2 : List.drop (K.takeWhile p).length (K.takeWhile p ++ K.dropWhile p) = K.dropWhile p := List.drop_left' rfl
  rw [h] at h1 h2
  exact ⟨h1.symm, h2.symm⟩
theorem ins_unt (t : Tm) (K : List Tm) : insT t K = K.take (untC K t.due) ++ t :: K.drop (untC K t.due) := by
  obtain ⟨h3, h4⟩ := while_cut (fun x : Tm => decide (x.due ≤ t.due)) K
  unfold insT untC
  rw [← h3, ← h4]
theorem rows_ins {α : Type} {f : α → Array Value} {k : Nat} (E : El f k) (K : List α) (i : Nat) (a : α) : (rowsOf f K).take (i * k) ++ (f a).toList ++ (rowsOf f K).drop (i * k) = rowsOf f (K.take i ++ a :: K.drop i) := by
  rw [rows_append, rows_cons, rows_take E, ← rows_drop E, List.append_assoc]
set_option maxRecDepth 100000 in
set_option maxHeartbeats 8000000 in
theorem set_any (v : Value) (n : Nat) (T : List Tm) (id : Int) (after : Nat) (w : World) (hv : WhS w v n T) (hR : rightW n T = true) (_hT : ∀ t ∈ T, I64 t.id ∧ t.due < 18446744073709551616) (_hid : I64 id) (ha : after < 18446744073709551616) :
    Calls Try.prog 9 #[v, .int .i64 id, .int .u64 (after : Int)] w fun e w' => ∃ v', e = .returned (.tuple #[v', .int .i64 (setC n T id after).2]) ∧ WhT w' v' n (setC n T id after).1 ∧ Below w.heap.size w w' := by
  have hl := right_len hR
  have hn := (rightW_iff.1 hR).2.1
  obtain ⟨s, rfl, hs⟩ := hv
  have hso := hs.one
  obtain ⟨w1, hw1⟩ : ∃ w1, (w.alloc (.cells #[.int .u64 (n : Int), s] 27)).alloc (.cells #[.int .u64 0, .slice none 0 0] 27) = w1 := ⟨_, rfl⟩
  have HB1 : Hid (Below w.heap.size w w1) := by rw [← hw1]; exact ((Below.refl _ _).alloc (Nat.le_refl _) _).alloc (by simp) _
  have HX0 : Hid (w1.heap[w.heap.size]? = some (.cells #[.int .u64 (n : Int), s] 27 (0, 0))) := by rw [← hw1]; exact old_alloc (heap_alloc_new w _) _
  have HX1 : Hid (w1.heap[w.heap.size + 1]? = some (.cells #[.int .u64 0, .slice none 0 0] 27 (0, 0))) := by rw [← hw1]; exact new_at1 w _ _
  have HW := Lib.hid hw1
  have HS1 : Hid (WhS w1 (.agg #[.int .u64 (n : Int), s]) n T) := ⟨s, rfl, hs.below HB1.out⟩
  obtain ⟨b, hb⟩ : ∃ b, w.heap.size = b := ⟨_, rfl⟩
  obtain ⟨g, hg⟩ : ∃ g, b + 1 = g := ⟨_, rfl⟩
  have HBB := Lib.hid hb
  rw [hb] at HX0 HX1
  rw [hg] at HX1
  have HG := Lib.hid hg
  have HNE : Hid (b ≠ g) := by show _ ≠ _; omega
  clear hw1 hg hb hs
  obtain ⟨a0, a1⟩ := two_cells HX0.out
  by_cases hbig : 4611686018427387904 < after
  · have HV : Hid (setC n T id after = (T, 1)) := if_pos hbig
    have hb2 : (4611686018427387904 : Int) < (after : Int) := by omega
    have HCL := Lib.hid (clonew_any _ n T w1 HS1.out (by omega))
    go_enter Try.func9, Try.ntmps9
    go_upto_region 1 with (fail)
    change Code.wp _ _ _ _ ((w.alloc (.cells #[.int .u64 (n : Int), s] 27)).alloc (.cells #[.int .u64 0, .slice none 0 0] 27))
    rw [HW.out, HBB.out, HG.out]
    clear HW
    go_wp2_with (refine wpList_load_row rfl 27 _ rfl b rfl 27 #[.int .u64 (n : Int), s] (0, 0) _ HX0.out Try.underlying27 rfl (by kernel_rfl) ?_)
    refine HCL.out.mono ?_
    rintro e w2 ⟨v2, rfl, ⟨s2, rfl, ho⟩, hb3⟩
    obtain ⟨A2, c2, rfl, -⟩ := ownk_form ho
    have HO2 := Lib.hid ho
    have HX12 := Lib.hid (old_below HX1.out hb3 (row_lt HX1.out))
    have HB2 : Hid (Below w.heap.size w w2) := HB1.out.trans (hb3.mono HB1.out.size)
    clear ho hb3 HCL
    go_wp2_with (refine wpList_store_row rfl 27 _ _ rfl g #[.int .u64 (n : Int), .slice A2 T.length c2] rfl rfl 27 #[.int .u64 0, .slice none 0 0] HX12.out (by kernel_rfl) rfl (by simp [Value.oneCell']) ?_)
    refine ret_two (g := g) rfl rfl (setRow_heap _ _ _ _ _ _ HX12.out) Try.underlying27 rfl (by kernel_rfl) rfl ?_
    rw [HV.out]
    exact ⟨_, rfl, ⟨_, rfl, TlT.own (ownk_other HO2.out HX12.out (by decide) fun j hj => setRow_other _ _ _ _ hj)⟩, below_setRow HB2.out (by have := HG.out; have := HBB.out; omega) _⟩
  have hb2 : ¬ (4611686018427387904 : Int) < (after : Int) := by omega
  have HST := Lib.hid (stopw_any _ n T id w1 HS1.out hR)
  have HD : Hid (setC n T id after = if 64 ≤ (T.filter (notI id)).length then (T, 5) else (insT ⟨id, n + max after 1⟩ (T.filter (notI id)), 0)) := if_neg hbig
  have HLT : Hid (T.length ≤ 64) := hl
  obtain ⟨F, hF⟩ : ∃ F, T.filter (notI id) = F := ⟨_, rfl⟩
  have HFL : Hid (F.length ≤ T.length) := by show _ ≤ _; rw [← hF]; exact List.length_filter_le _ _
  rw [hF] at HST HD
  obtain ⟨k, hk⟩ : ∃ k, F.length = k := ⟨_, rfl⟩
  have HKL := Lib.hid hk
  rw [hk] at HFL HD
  have hk64 : k ≤ 64 := Nat.le_trans HFL.out hl
  clear hF hk hl
  go_enter Try.func9, Try.ntmps9
  go_upto_region 1 with (fail)
  change Code.wp _ _ _ _ ((w.alloc (.cells #[.int .u64 (n : Int), s] 27)).alloc (.cells #[.int .u64 0, .slice none 0 0] 27))
  rw [HW.out, HBB.out, HG.out]
  clear HW
  go_wp2_with (refine wpList_load_row rfl 27 _ rfl b rfl 27 #[.int .u64 (n : Int), s] (0, 0) _ HX0.out Try.underlying27 rfl (by kernel_rfl) ?_)
  refine HST.out.mono ?_
  rintro e w2 ⟨v2, rfl, ⟨s2, rfl, ho⟩, hb3⟩
  rw [HKL.out] at ho
  obtain ⟨A2, c2, rfl, hc2, hcm, -⟩ := ownk_form ho
  have hcm2 : c2 ≤ 9223372036854775807 := by unfold maxLen at hcm; omega
  have HX02 := Lib.hid (old_below HX0.out hb3 (row_lt HX0.out))
  have HX12 := Lib.hid (old_below HX1.out hb3 (row_lt HX1.out))
  have HS2 : Hid (WhS w2 (.agg #[.int .u64 (n : Int), s]) n T) := HS1.out.below hb3
  have HB2 : Hid (Below w.heap.size w w2) := HB1.out.trans (hb3.mono HB1.out.size)
  obtain ⟨lo, hlo⟩ : ∃ lo, w1.heap.size = lo := ⟨_, rfl⟩
  rw [hlo] at ho
  have hlob : w.heap.size ≤ lo ∧ b < lo ∧ g < lo ∧ lo ≤ w2.heap.size := by
    have h1 := row_lt HX0.out
    have h2 := row_lt HX1.out
    have h3 := HB1.out.size
    have h4 := hb3.size
    omega
  have HLB := Lib.hid hlob
  have HO2 := Lib.hid ho
  obtain ⟨w3, hw3⟩ : ∃ w3, w2.alloc (.cells #[.int .u64 (n : Int), .slice A2 k c2] 27) = w3 := ⟨_, rfl⟩
  obtain ⟨bx, hh⟩ : ∃ bx, w2.heap.size = bx := ⟨_, rfl⟩
  have HHH := Lib.hid hh
  have HX23 : Hid (w3.heap[bx]? = some (.cells #[.int .u64 (n : Int), .slice A2 k c2] 27 (0, 0))) := by rw [← hw3, ← hh]; exact heap_alloc_new w2 _
  have HBR : Hid (Below w2.heap.size w2 w3) := by rw [← hw3]; exact (Below.refl _ _).alloc (Nat.le_refl _) _
  have HX03 := Lib.hid (old_below HX02.out HBR.out (row_lt HX02.out))
  have HX13 := Lib.hid (old_below HX12.out HBR.out (row_lt HX12.out))
  have HS3 : Hid (WhS w3 (.agg #[.int .u64 (n : Int), s]) n T) := HS2.out.below HBR.out
  have HO3 := Lib.hid (ownk_below HO2.out HBR.out (Nat.le_refl _))
  have HB3 := Lib.hid (HB2.out.trans (HBR.out.mono HB2.out.size))
  have HOB : Hid (∀ q, (Value.slice A2 k c2).ownBlock = some q → lo ≤ q ∧ q < bx) := fun q hq => by
    have := HO2.out.lt q hq
    rw [← hh]
    exact this
  have HW3 := Lib.hid hw3
  clear hlob hw3 hh ho hb3 HST HS1 HX0 HX1 HB1 HX02 HX12 HS2 HBR HB2 HO2 a0 a1 hcm hlo
  obtain ⟨a0, a1⟩ := two_cells HX03.out
  obtain ⟨e0, e1⟩ := two_cells HX23.out
  go_upto_region 4 with (refine wpList_store_new rfl 27 _ _ rfl w2 #[.int .u64 0, .slice none 0 0] #[.int .u64 (n : Int), .slice A2 k c2] rfl rfl (by kernel_rfl) rfl (by simp [Value.oneCell']) ?_)
  rw [HHH.out]
  change Code.wp _ _ _ _ (w2.alloc (.cells #[.int .u64 (n : Int), .slice A2 k c2] 27))
  rw [HW3.out]
  clear HW3
  by_cases h64 : 64 ≤ k
  · have HV : Hid (setC n T id after = (T, 5)) := by show _ = _; rw [HD.out, if_pos h64]
    have h64b : (64 : Int) ≤ (k : Int) := by omega
    have HCL := Lib.hid (clonew_any _ n T w3 HS3.out (by have := HLT.out; omega))
    go_wp2_with (refine wpList_load_row rfl 27 _ rfl b rfl 27 #[.int .u64 (n : Int), s] (0, 0) _ HX03.out Try.underlying27 rfl (by kernel_rfl) ?_)
    refine HCL.out.mono ?_
    rintro e w4 ⟨v4, rfl, ⟨s4, rfl, ho⟩, hb3⟩
    obtain ⟨A4, c4, rfl, -⟩ := ownk_form ho
    have HO4 := Lib.hid ho
    have HX14 := Lib.hid (old_below HX13.out hb3 (row_lt HX13.out))
    have HB4 : Hid (Below w.heap.size w w4) := HB3.out.trans (hb3.mono HB3.out.size)
    clear ho hb3 HCL
    go_wp2_with (refine wpList_store_row rfl 27 _ _ rfl g #[.int .u64 (n : Int), .slice A4 T.length c4] rfl rfl 27 #[.int .u64 0, .slice none 0 0] HX14.out (by kernel_rfl) rfl (by simp [Value.oneCell']) ?_)
    refine ret_two (g := g) rfl rfl (setRow_heap _ _ _ _ _ _ HX14.out) Try.underlying27 rfl (by kernel_rfl) rfl ?_
    rw [HV.out]
    exact ⟨_, rfl, ⟨_, rfl, TlT.own (ownk_other HO4.out HX14.out (by decide) fun j hj => setRow_other _ _ _ _ hj)⟩, below_setRow HB4.out (by have := HG.out; have := HBB.out; omega) _⟩
  have h64b : ¬ (64 : Int) ≤ (k : Int) := by omega
  obtain ⟨at_, hat⟩ : ∃ at_, n + max after 1 = at_ := ⟨_, rfl⟩
  have hat2 : (n : Int) + max (after : Int) 1 = (at_ : Int) := by omega
  have hat3 : at_ ≤ 9223372036854775808 := by omega
  have HV : Hid (setC n T id after = (insT ⟨id, at_⟩ F, 0)) := by show _ = _; rw [HD.out, if_neg h64, hat]
  have HIB := Lib.hid (ins_unt ⟨id, at_⟩ F)
  obtain ⟨i, hib⟩ : ∃ i, untC F at_ = i := ⟨_, rfl⟩
  have hile : i ≤ k := by rw [← hib, ← HKL.out]; exact unt_le F at_
  have HIX := Lib.hid hib
  have HIB2 : Hid (insT ⟨id, at_⟩ F = F.take i ++ ⟨id, at_⟩ :: F.drop i) := by show _ = _; rw [HIB.out, show untC F (⟨id, at_⟩ : Tm).due = i from hib]
  have HIL : Hid ((insT ⟨id, at_⟩ F).length = k + 1) := by show _ = _; rw [ins_len, HKL.out]
  clear HIB hib
  rcases Nat.eq_zero_or_pos after with h0 | h0
  · subst h0
    have hat2 : (n : Int) + 1 = (at_ : Int) := by omega
    clear hat
    go_upto_region 7 with (fail)
    have HMS : Hid ((tmA ⟨id, at_⟩).size = 2) := tmE.size _
    have HM1 : Hid (∀ u ∈ (tmA ⟨id, at_⟩).toList, u.oneCell' = true) := el_ones tmE _
    have HRW := Lib.hid (rows_ins tmE F i ⟨id, at_⟩)
    have HR1 := Lib.hid (rows_ones tmE F)
    have HUN : Hid (∀ w' : World, w'.ownsRow lo 53 2 (.slice A2 k c2) k (rowsOf tmA F) → Calls Try.prog 21 #[.slice A2 k c2, .int .u64 (at_ : Int)] w' fun e w'' => e = .returned (.int .i64 (i : Int)) ∧ Below w'.heap.size w' w'') := fun w' ho => by
      have := until_any (.slice A2 k c2) F at_ w' (SlT.own (by rw [HKL.out]; exact ho)) (by rw [HKL.out]; omega)
      rwa [HIX.out] at this
    obtain ⟨xs, hxs⟩ : ∃ xs, rowsOf tmA F = xs := ⟨_, rfl⟩
    rw [hxs] at HRW HR1 HO3 HUN
    have HCMV : Hid (tmA ⟨id, at_⟩ = #[.int .i64 id, .int .u64 (at_ : Int)]) := rfl
    obtain ⟨CM, hCM⟩ : ∃ CM, tmA ⟨id, at_⟩ = CM := ⟨_, rfl⟩
    rw [hCM] at HMS HM1 HRW HCMV
    have HLS : Hid (lo ≤ w3.heap.size) := Nat.le_trans HLB.out.2.2.2 (by have := row_lt HX23.out; have := HHH.out; omega)
    have HB3S : Hid (bx < w3.heap.size) := row_lt HX23.out
    clear hxs hCM a0 a1 e0 e1 hat2
    apply wp_region_relyL [10] (fun Ld w' => w3.grownBy w' (Value.slice A2 k c2).ownBlock ∧ (Ld 10 = false → w'.ownsRow lo 53 2 (.slice A2 k c2) k xs)) (RL [Is _, Is (.slice A2 k c2), Is _, Is (.slice A2 k c2), Is _, Is (.int .i64 (i : Int)), Is _, Is _, Is (.agg #[.int .i64 id, .int .u64 (at_ : Int)]), fun v w => ∃ g, v = .slice (some ⟨g, 0, none⟩) 1 1 ∧ w.heap[g]? = some (.cells CM 53 (0, 0)) ∧ w3.heap.size ≤ g, OwnR lo 53 2 (k + 1) (xs.take (i * 2) ++ CM.toList ++ xs.drop (i * 2)), Is (.pointer (some ⟨bx, 1, none⟩))]) [false, false, false, false, false, false, false, false, false, false, false, false, false, false, false, false, false, false, false, false, false, false, false, false, false, false, false, false, false, false, false, false, true, true, true, true, true, true, true, true, true, true, true, true, false] _ rfl
    · kernel_rfl
    · kernel_rfl
    · kernel_rfl
    · kernel_rfl
    · refine ⟨?_, ?_, ?_, ?_, ?_, ?_, ?_, ?_, ?_, ?_, ?_, ?_, trivial⟩
      · intro Ld ev w' hC hL hx K hK
        have e8 : ev (.tmp 8) = _ := hx.base 8 (by kernel_rfl)
        have HK := Lib.hid hK
        have HC := Lib.hid hC
        have HL := Lib.hid hL
        have HX := Lib.hid hx
        have hc := hx.cst
        skip
        clear hx hK hC hL
        unfold Run
        simp [execOp, Upon, go_sem, *]
        exact HK.out _ _ (.inl ⟨Below.refl _ _, by decide⟩) rfl
      · intro Ld ev w' hC hL hx K hK
        have e32 := hx.held 0 _ rfl (by kernel_rfl)
        change ev (.tmp 32) = _ at e32
        have HK := Lib.hid hK
        have HC := Lib.hid hC
        have HL := Lib.hid hL
        have HX := Lib.hid hx
        have hc := hx.cst
        skip
        clear hx hK hC hL
        have q1 : ev (.tmp 32) = .pointer (some ⟨bx, 1, none⟩) := e32
        have hld := run_loadVar_cell (P := Try.prog) w' ⟨bx, 1, none⟩ 25 (.slice A2 k c2) _ ((cell_of_row _ _ _ _ _ _ ((HC.out.1.block bx (row_lt HX23.out) (fun e => by have := (HOB.out bx e.symm).2; omega)).trans HX23.out)).trans rfl) Try.underlying25 rfl
        unfold Run
        rw [rely_load 25 _ rfl q1 hld]
        exact HK.out _ _ (.inl ⟨Below.refl _ _, by decide⟩) rfl
      · intro Ld ev w' hC hL hx K hK
        have e8 : ev (.tmp 8) = _ := hx.base 8 (by kernel_rfl)
        have HK := Lib.hid hK
        have HC := Lib.hid hC
        have HL := Lib.hid hL
        have HX := Lib.hid hx
        have hc := hx.cst
        skip
        clear hx hK hC hL
        unfold Run
        simp [execOp, Upon, go_sem, *]
        exact HK.out _ _ (.inl ⟨Below.refl _ _, by decide⟩) rfl
      · intro Ld ev w' hC hL hx K hK
        have e34 := hx.held 2 _ rfl (by kernel_rfl)
        change ev (.tmp 34) = _ at e34
        have HK := Lib.hid hK
        have HC := Lib.hid hC
        have HL := Lib.hid hL
        have HX := Lib.hid hx
        have hc := hx.cst
        skip
        clear hx hK hC hL
        have q1 : ev (.tmp 34) = .pointer (some ⟨bx, 1, none⟩) := e34
        have hld := run_loadVar_cell (P := Try.prog) w' ⟨bx, 1, none⟩ 25 (.slice A2 k c2) _ ((cell_of_row _ _ _ _ _ _ ((HC.out.1.block bx (row_lt HX23.out) (fun e => by have := (HOB.out bx e.symm).2; omega)).trans HX23.out)).trans rfl) Try.underlying25 rfl
        unfold Run
        rw [rely_load 25 _ rfl q1 hld]
        exact HK.out _ _ (.inl ⟨Below.refl _ _, by decide⟩) rfl
      · intro Ld ev w' hC hL hx K hK
        have e10 : ev (.tmp 10) = _ := hx.base 10 (by kernel_rfl)
        have HK := Lib.hid hK
        have HC := Lib.hid hC
        have HL := Lib.hid hL
        have HX := Lib.hid hx
        have hc := hx.cst
        skip
        clear hx hK hC hL
        unfold Run
        simp [execOp, Upon, go_sem, *]
        exact HK.out _ _ (.inl ⟨Below.refl _ _, by decide⟩) rfl
      · intro Ld ev w' hC hL hx K hK
        have e35 := hx.held 3 _ rfl (by kernel_rfl)
        have e36 := hx.held 4 _ rfl (by kernel_rfl)
        change ev (.tmp 35) = _ at e35
        change ev (.tmp 36) = _ at e36
        have HK := Lib.hid hK
        have HC := Lib.hid hC
        have HL := Lib.hid hL
        have HX := Lib.hid hx
        have hc := hx.cst
        have hf := hx.fn
        clear hx hK hC hL
        have hL10 : Ld 10 = false := Bool.eq_false_iff.2 fun h => by have h1 := HX.out.closed 10 _ 5 rfl h (by kernel_rfl); rw [HL.out] at h1; cases h1
        have HQB := Lib.hid (HUN.out w' (HC.out.2 hL10))
        clear hL10
        unfold Run
        simp [execOp, Upon, go_sem, *]
        refine HQB.out.mono ?_
        rintro e w9 ⟨rfl, hb9⟩
        exact ⟨_, rfl, HK.out _ _ (.inl ⟨hb9, by decide⟩) rfl⟩
      · intro Ld ev w' hC hL hx K hK
        have e1 : ev (.tmp 1) = _ := hx.base 1 (by kernel_rfl)
        have HK := Lib.hid hK
        have HC := Lib.hid hC
        have HL := Lib.hid hL
        have HX := Lib.hid hx
        have hc := hx.cst
        skip
        clear hx hK hC hL
        unfold Run
        simp [execOp, Upon, go_sem, *]
        exact HK.out _ _ (.inl ⟨Below.refl _ _, by decide⟩) rfl
      · intro Ld ev w' hC hL hx K hK
        have e10 : ev (.tmp 10) = _ := hx.base 10 (by kernel_rfl)
        have HK := Lib.hid hK
        have HC := Lib.hid hC
        have HL := Lib.hid hL
        have HX := Lib.hid hx
        have hc := hx.cst
        skip
        clear hx hK hC hL
        unfold Run
        simp [execOp, Upon, go_sem, *]
        exact HK.out _ _ (.inl ⟨Below.refl _ _, by decide⟩) rfl
      · intro Ld ev w' hC hL hx K hK
        have e38 := hx.held 6 _ rfl (by kernel_rfl)
        have e39 := hx.held 7 _ rfl (by kernel_rfl)
        change ev (.tmp 38) = _ at e38
        change ev (.tmp 39) = _ at e39
        have HK := Lib.hid hK
        have HC := Lib.hid hC
        have HL := Lib.hid hL
        have HX := Lib.hid hx
        have hc := hx.cst
        skip
        clear hx hK hC hL
        unfold Run
        simp [execOp, Upon, go_sem, *]
        exact HK.out _ _ (.inl ⟨Below.refl _ _, by decide⟩) rfl
      · intro Ld ev w' hC hL hx K hK
        have e40 := hx.held 8 _ rfl (by kernel_rfl)
        change ev (.tmp 40) = _ at e40
        have HK := Lib.hid hK
        have HC := Lib.hid hC
        have HL := Lib.hid hL
        have HX := Lib.hid hx
        have hc := hx.cst
        skip
        clear hx hK hC hL
        have q40 : ev (.tmp 40) = .agg CM := by rw [HCMV.out]; exact e40
        have hrun := run_build_one (P := Try.prog) w' 25 53 CM Try.underlying25 2 (by decide) (by decide) (by kernel_rfl) HMS.out
        unfold Run
        rw [run_buildE 25 _ rfl q40 hrun]
        exact HK.out _ _ (.inl ⟨(Below.refl _ _).alloc (Nat.le_refl _) _, by decide⟩) ⟨_, rfl, heap_alloc_new w' _, HC.out.1.size⟩
      · intro Ld ev w' hC hL hx K hK
        have e33 := hx.held 1 _ rfl (by kernel_rfl)
        have e37 := hx.held 5 _ rfl (by kernel_rfl)
        have e41 := hx.held 9 _ rfl (by kernel_rfl)
        change ev (.tmp 33) = _ at e33
        change ev (.tmp 37) = _ at e37
        change (fun v w => ∃ g, v = .slice (some ⟨g, 0, none⟩) 1 1 ∧ w.heap[g]? = some (.cells CM 53 (0, 0)) ∧ w3.heap.size ≤ g : Pred) (ev (.tmp 41)) w' at e41
        have HK := Lib.hid hK
        have HC := Lib.hid hC
        have HL := Lib.hid hL
        have HX := Lib.hid hx
        have hc := hx.cst
        have hf := hx.fn
        clear hx hK hC hL
        obtain ⟨gk, q41, hgk, hgl⟩ := e41
        have q33 : ev (.tmp 33) = .slice A2 k c2 := e33
        have HIN := Lib.hid (inW_any (.slice A2 k c2) k i lo gk CM xs w' HMS.out HM1.out (HC.out.2 HL.out) HR1.out hgk (fun g hg => by have := (HOB.out g hg).2; have := HB3S.out; omega) (by omega) hile (Nat.le_trans HLS.out HC.out.1.size))
        clear hgk
        unfold Run
        simp [execOp, Upon, go_sem, *]
        refine HIN.out.mono ?_
        rintro e w9 ⟨v9, rfl, ho9, hg9⟩
        refine ⟨_, rfl, HK.out _ _ (.inr ⟨⟨HC.out.1.trans hg9, fun h => by simp [upd] at h⟩, fun j hj hlj u hr => ?_⟩) ho9⟩
        refine rl_sg (S := fun x y => w3.heap.size ≤ x.heap.size ∧ x.grownBy y (Value.slice A2 k c2).ownBlock) (ex := [10]) 0 (by exact ⟨.inr (is_sg _ _), .inr (is_sg _ _), .inr (is_sg _ _), .inr (is_sg _ _), .inr (is_sg _ _), .inr (is_sg _ _), .inr (is_sg _ _), .inr (is_sg _ _), .inr (is_sg _ _), .inr (fun u x y hxy ⟨g, h1, h2, h3⟩ => ⟨g, h1, (hxy.2.block g (row_lt h2) (fun e => by have := (HOB.out g e.symm).2; have := HB3S.out; omega)).trans h2, h3⟩), .inl rfl, .inr (is_sg _ _), trivial⟩) j u _ _ ?_ ⟨HC.out.1.size, hg9⟩ hr
        simp at hj ⊢
        omega
      · intro Ld ev w' hC hL hx K hK
        have e8 : ev (.tmp 8) = _ := hx.base 8 (by kernel_rfl)
        have HK := Lib.hid hK
        have HC := Lib.hid hC
        have HL := Lib.hid hL
        have HX := Lib.hid hx
        have hc := hx.cst
        skip
        clear hx hK hC hL
        unfold Run
        simp [execOp, Upon, go_sem, *]
        exact HK.out _ _ (.inl ⟨Below.refl _ _, by decide⟩) rfl
    · exact rl_mono ⟨is_mono _, is_mono _, is_mono _, is_mono _, is_mono _, is_mono _, is_mono _, is_mono _, is_mono _, fun _ _ _ hb ⟨g, h1, h2, h3⟩ => ⟨g, h1, (hb.block g (row_lt h2)).trans h2, h3⟩, ownr_mono _ _ _ _ _, is_mono _, trivial⟩
    · exact fun L1 L2 w1 he h => ⟨h.1, fun hh => h.2 (by rw [he 10 (by simp)]; exact hh)⟩
    · exact fun L1 w1 w2 hb h => ⟨grown_below h.1 hb, fun hh => ownk_below (h.2 hh) hb (Nat.le_refl _)⟩
    · exact ⟨World.grownBy.refl _ _, fun _ => HO3.out⟩
    · simp
    intro us wr hG hH
    obtain ⟨-, -, -, -, -, -, -, -, -, -, h10, h11, -⟩ := hH
    simp only [fillM]
    change (OwnR lo 53 2 (k + 1) (xs.take (i * 2) ++ CM.toList ++ xs.drop (i * 2)) : Pred) (us 42) wr at h10
    change us 43 = _ at h11
    rw [h11]
    clear h11
    generalize us 32 = v32
    generalize us 33 = v33
    generalize us 34 = v34
    generalize us 35 = v35
    generalize us 36 = v36
    generalize us 37 = v37
    generalize us 38 = v38
    generalize us 39 = v39
    generalize us 40 = v40
    generalize us 41 = v41
    generalize us 42 = v42 at h10 ⊢
    obtain ⟨hG1, -⟩ := hG
    change wr.ownsRow lo 53 2 v42 (k + 1) (xs.take (i * 2) ++ CM.toList ++ xs.drop (i * 2)) at h10
    obtain ⟨A6, c6, rfl, -⟩ := ownk_form h10
    have HO9 := Lib.hid h10
    have HXR : Hid (wr.heap[bx]? = some (.cells #[.int .u64 (n : Int), .slice A2 k c2] 27 (0, 0))) := (hG1.block bx (row_lt HX23.out) (fun e => by have := (HOB.out bx e.symm).2; omega)).trans HX23.out
    have HGR : Hid (wr.heap[g]? = some (.cells #[.int .u64 0, .slice none 0 0] 27 (0, 0))) := (hG1.block g (row_lt HX13.out) (fun e => by have := (HOB.out g e.symm).1; have := HLB.out.2.2.1; omega)).trans HX13.out
    have HB9 : Hid (Below w.heap.size w wr) := HB3.out.trans (below_grown hG1 HB3.out.size (fun q hq => by have := (HOB.out q hq).1; have := HLB.out.1; omega))
    have HBX : Hid (lo ≤ bx) := by have := HLB.out.2.2.2; have := HHH.out; show _ ≤ _; omega
    clear h10 hG1
    refine wp_store_fld 25 (.tmp 43) (.tmp 42) rfl bx 1 rfl (.slice A6 (k + 1) c6) rfl 27 #[.int .u64 (n : Int), .slice A2 k c2] HXR.out (by simp) (by kernel_rfl) rfl ?_
    have HXS : Hid ((wr.setRow bx #[.int .u64 (n : Int), .slice A6 (k + 1) c6]).heap[bx]? = some (.cells #[.int .u64 (n : Int), .slice A6 (k + 1) c6] 27 (0, 0))) := setRow_heap _ _ _ _ _ _ HXR.out
    have HGS : Hid ((wr.setRow bx #[.int .u64 (n : Int), .slice A6 (k + 1) c6]).heap[g]? = some (.cells #[.int .u64 0, .slice none 0 0] 27 (0, 0))) := (setRow_other _ _ _ _ (by have := HLB.out.2.2.1; have := HBX.out; omega)).trans HGR.out
    have HOS : Hid ((wr.setRow bx #[.int .u64 (n : Int), .slice A6 (k + 1) c6]).ownsRow lo 53 2 (.slice A6 (k + 1) c6) (k + 1) _) := ownk_other HO9.out HXR.out (by decide) fun j hj => setRow_other _ _ _ _ hj
    have HBS : Hid (Below w.heap.size w (wr.setRow bx #[.int .u64 (n : Int), .slice A6 (k + 1) c6])) := below_setRow HB9.out (by have := HLB.out.1; have := HBX.out; omega) _
    change Exit.then _ _ _ _ (wr.setRow bx #[.int .u64 (n : Int), .slice A6 (k + 1) c6])
    generalize wr.setRow bx #[.int .u64 (n : Int), .slice A6 (k + 1) c6] = w9 at HXS HGS HOS HBS ⊢
    clear HO9 HXR HGR HB9
    simp only [Act.put]
    go_wp2_with (first | (refine wpList_load_row rfl 27 _ rfl bx rfl 27 #[.int .u64 (n : Int), .slice A6 (k + 1) c6] (0, 0) _ HXS.out Try.underlying27 rfl (by kernel_rfl) ?_) | (refine wpList_store_row rfl 27 _ _ rfl g #[.int .u64 (n : Int), .slice A6 (k + 1) c6] rfl rfl 27 #[.int .u64 0, .slice none 0 0] HGS.out (by kernel_rfl) rfl (by simp [Value.oneCell']) ?_))
    refine ret_two (g := g) rfl rfl (setRow_heap _ _ _ _ _ _ HGS.out) Try.underlying27 rfl (by kernel_rfl) rfl ?_
    rw [HV.out]
    refine ⟨_, rfl, ⟨_, rfl, TlT.own (base := lo) (k := 2) ?_⟩, below_setRow HBS.out (by have := HG.out; have := HBB.out; omega) _⟩
    · rw [HIL.out, HIB2.out, ← HRW.out]
      exact ownk_other HOS.out HGS.out (by decide) fun j hj => setRow_other _ _ _ _ hj
  · have h0b : (1 : Int) < (after : Int) ∨ (after : Int) = 1 := by omega
    have hmx : max after 1 = after := by omega
    rw [hmx] at hat
    rcases h0b with h0b | h0b
    · have hat2 : (n : Int) + (after : Int) = (at_ : Int) := by omega
      clear hat hmx
      go_upto_region 7 with (fail)
      have HMS : Hid ((tmA ⟨id, at_⟩).size = 2) := tmE.size _
      have HM1 : Hid (∀ u ∈ (tmA ⟨id, at_⟩).toList, u.oneCell' = true) := el_ones tmE _
      have HRW := Lib.hid (rows_ins tmE F i ⟨id, at_⟩)
      have HR1 := Lib.hid (rows_ones tmE F)
      have HUN : Hid (∀ w' : World, w'.ownsRow lo 53 2 (.slice A2 k c2) k (rowsOf tmA F) → Calls Try.prog 21 #[.slice A2 k c2, .int .u64 (at_ : Int)] w' fun e w'' => e = .returned (.int .i64 (i : Int)) ∧ Below w'.heap.size w' w'') := fun w' ho => by
        have := until_any (.slice A2 k c2) F at_ w' (SlT.own (by rw [HKL.out]; exact ho)) (by rw [HKL.out]; omega)
        rwa [HIX.out] at this
      obtain ⟨xs, hxs⟩ : ∃ xs, rowsOf tmA F = xs := ⟨_, rfl⟩
      rw [hxs] at HRW HR1 HO3 HUN
      have HCMV : Hid (tmA ⟨id, at_⟩ = #[.int .i64 id, .int .u64 (at_ : Int)]) := rfl
      obtain ⟨CM, hCM⟩ : ∃ CM, tmA ⟨id, at_⟩ = CM := ⟨_, rfl⟩
      rw [hCM] at HMS HM1 HRW HCMV
      have HLS : Hid (lo ≤ w3.heap.size) := Nat.le_trans HLB.out.2.2.2 (by have := row_lt HX23.out; have := HHH.out; omega)
      have HB3S : Hid (bx < w3.heap.size) := row_lt HX23.out
      clear hxs hCM a0 a1 e0 e1 hat2
      apply wp_region_relyL [10] (fun Ld w' => w3.grownBy w' (Value.slice A2 k c2).ownBlock ∧ (Ld 10 = false → w'.ownsRow lo 53 2 (.slice A2 k c2) k xs)) (RL [Is _, Is (.slice A2 k c2), Is _, Is (.slice A2 k c2), Is _, Is (.int .i64 (i : Int)), Is _, Is _, Is (.agg #[.int .i64 id, .int .u64 (at_ : Int)]), fun v w => ∃ g, v = .slice (some ⟨g, 0, none⟩) 1 1 ∧ w.heap[g]? = some (.cells CM 53 (0, 0)) ∧ w3.heap.size ≤ g, OwnR lo 53 2 (k + 1) (xs.take (i * 2) ++ CM.toList ++ xs.drop (i * 2)), Is (.pointer (some ⟨bx, 1, none⟩))]) [false, false, false, false, false, false, false, false, false, false, false, false, false, false, false, false, false, false, false, false, false, false, false, false, false, false, false, false, false, false, false, false, true, true, true, true, true, true, true, true, true, true, true, true, false] _ rfl
      · kernel_rfl
      · kernel_rfl
      · kernel_rfl
      · kernel_rfl
      · refine ⟨?_, ?_, ?_, ?_, ?_, ?_, ?_, ?_, ?_, ?_, ?_, ?_, trivial⟩
        · intro Ld ev w' hC hL hx K hK
          have e8 : ev (.tmp 8) = _ := hx.base 8 (by kernel_rfl)
          have HK := Lib.hid hK
          have HC := Lib.hid hC
          have HL := Lib.hid hL
          have HX := Lib.hid hx
          have hc := hx.cst
          skip
          clear hx hK hC hL
          unfold Run
          simp [execOp, Upon, go_sem, *]
          exact HK.out _ _ (.inl ⟨Below.refl _ _, by decide⟩) rfl
        · intro Ld ev w' hC hL hx K hK
          have e32 := hx.held 0 _ rfl (by kernel_rfl)
          change ev (.tmp 32) = _ at e32
          have HK := Lib.hid hK
          have HC := Lib.hid hC
          have HL := Lib.hid hL
          have HX := Lib.hid hx
          have hc := hx.cst
          skip
          clear hx hK hC hL
          have q1 : ev (.tmp 32) = .pointer (some ⟨bx, 1, none⟩) := e32
          have hld := run_loadVar_cell (P := Try.prog) w' ⟨bx, 1, none⟩ 25 (.slice A2 k c2) _ ((cell_of_row _ _ _ _ _ _ ((HC.out.1.block bx (row_lt HX23.out) (fun e => by have := (HOB.out bx e.symm).2; omega)).trans HX23.out)).trans rfl) Try.underlying25 rfl
          unfold Run
          rw [rely_load 25 _ rfl q1 hld]
          exact HK.out _ _ (.inl ⟨Below.refl _ _, by decide⟩) rfl
        · intro Ld ev w' hC hL hx K hK
          have e8 : ev (.tmp 8) = _ := hx.base 8 (by kernel_rfl)
          have HK := Lib.hid hK
          have HC := Lib.hid hC
          have HL := Lib.hid hL
          have HX := Lib.hid hx
          have hc := hx.cst
          skip
          clear hx hK hC hL
          unfold Run
          simp [execOp, Upon, go_sem, *]
          exact HK.out _ _ (.inl ⟨Below.refl _ _, by decide⟩) rfl
        · intro Ld ev w' hC hL hx K hK
          have e34 := hx.held 2 _ rfl (by kernel_rfl)
          change ev (.tmp 34) = _ at e34
          have HK := Lib.hid hK
          have HC := Lib.hid hC
          have HL := Lib.hid hL
          have HX := Lib.hid hx
          have hc := hx.cst
          skip
          clear hx hK hC hL
          have q1 : ev (.tmp 34) = .pointer (some ⟨bx, 1, none⟩) := e34
          have hld := run_loadVar_cell (P := Try.prog) w' ⟨bx, 1, none⟩ 25 (.slice A2 k c2) _ ((cell_of_row _ _ _ _ _ _ ((HC.out.1.block bx (row_lt HX23.out) (fun e => by have := (HOB.out bx e.symm).2; omega)).trans HX23.out)).trans rfl) Try.underlying25 rfl
          unfold Run
          rw [rely_load 25 _ rfl q1 hld]
          exact HK.out _ _ (.inl ⟨Below.refl _ _, by decide⟩) rfl
        · intro Ld ev w' hC hL hx K hK
          have e10 : ev (.tmp 10) = _ := hx.base 10 (by kernel_rfl)
          have HK := Lib.hid hK
          have HC := Lib.hid hC
          have HL := Lib.hid hL
          have HX := Lib.hid hx
          have hc := hx.cst
          skip
          clear hx hK hC hL
          unfold Run
          simp [execOp, Upon, go_sem, *]
          exact HK.out _ _ (.inl ⟨Below.refl _ _, by decide⟩) rfl
        · intro Ld ev w' hC hL hx K hK
          have e35 := hx.held 3 _ rfl (by kernel_rfl)
          have e36 := hx.held 4 _ rfl (by kernel_rfl)
          change ev (.tmp 35) = _ at e35
          change ev (.tmp 36) = _ at e36
          have HK := Lib.hid hK
          have HC := Lib.hid hC
          have HL := Lib.hid hL
          have HX := Lib.hid hx
          have hc := hx.cst
          have hf := hx.fn
          clear hx hK hC hL
          have hL10 : Ld 10 = false := Bool.eq_false_iff.2 fun h => by have h1 := HX.out.closed 10 _ 5 rfl h (by kernel_rfl); rw [HL.out] at h1; cases h1
          have HQB := Lib.hid (HUN.out w' (HC.out.2 hL10))
          clear hL10
          unfold Run
          simp [execOp, Upon, go_sem, *]
          refine HQB.out.mono ?_
          rintro e w9 ⟨rfl, hb9⟩
          exact ⟨_, rfl, HK.out _ _ (.inl ⟨hb9, by decide⟩) rfl⟩
        · intro Ld ev w' hC hL hx K hK
          have e1 : ev (.tmp 1) = _ := hx.base 1 (by kernel_rfl)
          have HK := Lib.hid hK
          have HC := Lib.hid hC
          have HL := Lib.hid hL
          have HX := Lib.hid hx
          have hc := hx.cst
          skip
          clear hx hK hC hL
          unfold Run
          simp [execOp, Upon, go_sem, *]
          exact HK.out _ _ (.inl ⟨Below.refl _ _, by decide⟩) rfl
        · intro Ld ev w' hC hL hx K hK
          have e10 : ev (.tmp 10) = _ := hx.base 10 (by kernel_rfl)
          have HK := Lib.hid hK
          have HC := Lib.hid hC
          have HL := Lib.hid hL
          have HX := Lib.hid hx
          have hc := hx.cst
          skip
          clear hx hK hC hL
          unfold Run
          simp [execOp, Upon, go_sem, *]
          exact HK.out _ _ (.inl ⟨Below.refl _ _, by decide⟩) rfl
        · intro Ld ev w' hC hL hx K hK
          have e38 := hx.held 6 _ rfl (by kernel_rfl)
          have e39 := hx.held 7 _ rfl (by kernel_rfl)
          change ev (.tmp 38) = _ at e38
          change ev (.tmp 39) = _ at e39
          have HK := Lib.hid hK
          have HC := Lib.hid hC
          have HL := Lib.hid hL
          have HX := Lib.hid hx
          have hc := hx.cst
          skip
          clear hx hK hC hL
          unfold Run
          simp [execOp, Upon, go_sem, *]
          exact HK.out _ _ (.inl ⟨Below.refl _ _, by decide⟩) rfl
        · intro Ld ev w' hC hL hx K hK
          have e40 := hx.held 8 _ rfl (by kernel_rfl)
          change ev (.tmp 40) = _ at e40
          have HK := Lib.hid hK
          have HC := Lib.hid hC
          have HL := Lib.hid hL
          have HX := Lib.hid hx
          have hc := hx.cst
          skip
          clear hx hK hC hL
          have q40 : ev (.tmp 40) = .agg CM := by rw [HCMV.out]; exact e40
          have hrun := run_build_one (P := Try.prog) w' 25 53 CM Try.underlying25 2 (by decide) (by decide) (by kernel_rfl) HMS.out
          unfold Run
          rw [run_buildE 25 _ rfl q40 hrun]
          exact HK.out _ _ (.inl ⟨(Below.refl _ _).alloc (Nat.le_refl _) _, by decide⟩) ⟨_, rfl, heap_alloc_new w' _, HC.out.1.size⟩
        · intro Ld ev w' hC hL hx K hK
          have e33 := hx.held 1 _ rfl (by kernel_rfl)
          have e37 := hx.held 5 _ rfl (by kernel_rfl)
          have e41 := hx.held 9 _ rfl (by kernel_rfl)
          change ev (.tmp 33) = _ at e33
          change ev (.tmp 37) = _ at e37
          change (fun v w => ∃ g, v = .slice (some ⟨g, 0, none⟩) 1 1 ∧ w.heap[g]? = some (.cells CM 53 (0, 0)) ∧ w3.heap.size ≤ g : Pred) (ev (.tmp 41)) w' at e41
          have HK := Lib.hid hK
          have HC := Lib.hid hC
          have HL := Lib.hid hL
          have HX := Lib.hid hx
          have hc := hx.cst
          have hf := hx.fn
          clear hx hK hC hL
          obtain ⟨gk, q41, hgk, hgl⟩ := e41
          have q33 : ev (.tmp 33) = .slice A2 k c2 := e33
          have HIN := Lib.hid (inW_any (.slice A2 k c2) k i lo gk CM xs w' HMS.out HM1.out (HC.out.2 HL.out) HR1.out hgk (fun g hg => by have := (HOB.out g hg).2; have := HB3S.out; omega) (by omega) hile (Nat.le_trans HLS.out HC.out.1.size))
          clear hgk
          unfold Run
          simp [execOp, Upon, go_sem, *]
          refine HIN.out.mono ?_
          rintro e w9 ⟨v9, rfl, ho9, hg9⟩
          refine ⟨_, rfl, HK.out _ _ (.inr ⟨⟨HC.out.1.trans hg9, fun h => by simp [upd] at h⟩, fun j hj hlj u hr => ?_⟩) ho9⟩
          refine rl_sg (S := fun x y => w3.heap.size ≤ x.heap.size ∧ x.grownBy y (Value.slice A2 k c2).ownBlock) (ex := [10]) 0 (by exact ⟨.inr (is_sg _ _), .inr (is_sg _ _), .inr (is_sg _ _), .inr (is_sg _ _), .inr (is_sg _ _), .inr (is_sg _ _), .inr (is_sg _ _), .inr (is_sg _ _), .inr (is_sg _ _), .inr (fun u x y hxy ⟨g, h1, h2, h3⟩ => ⟨g, h1, (hxy.2.block g (row_lt h2) (fun e => by have := (HOB.out g e.symm).2; have := HB3S.out; omega)).trans h2, h3⟩), .inl rfl, .inr (is_sg _ _), trivial⟩) j u _ _ ?_ ⟨HC.out.1.size, hg9⟩ hr
          simp at hj ⊢
          omega
        · intro Ld ev w' hC hL hx K hK
          have e8 : ev (.tmp 8) = _ := hx.base 8 (by kernel_rfl)
          have HK := Lib.hid hK
          have HC := Lib.hid hC
          have HL := Lib.hid hL
          have HX := Lib.hid hx
          have hc := hx.cst
          skip
          clear hx hK hC hL
          unfold Run
          simp [execOp, Upon, go_sem, *]
          exact HK.out _ _ (.inl ⟨Below.refl _ _, by decide⟩) rfl
      · exact rl_mono ⟨is_mono _, is_mono _, is_mono _, is_mono _, is_mono _, is_mono _, is_mono _, is_mono _, is_mono _, fun _ _ _ hb ⟨g, h1, h2, h3⟩ => ⟨g, h1, (hb.block g (row_lt h2)).trans h2, h3⟩, ownr_mono _ _ _ _ _, is_mono _, trivial⟩
      · exact fun L1 L2 w1 he h => ⟨h.1, fun hh => h.2 (by rw [he 10 (by simp)]; exact hh)⟩
      · exact fun L1 w1 w2 hb h => ⟨grown_below h.1 hb, fun hh => ownk_below (h.2 hh) hb (Nat.le_refl _)⟩
      · exact ⟨World.grownBy.refl _ _, fun _ => HO3.out⟩
      · simp
      intro us wr hG hH
      obtain ⟨-, -, -, -, -, -, -, -, -, -, h10, h11, -⟩ := hH
      simp only [fillM]
      change (OwnR lo 53 2 (k + 1) (xs.take (i * 2) ++ CM.toList ++ xs.drop (i * 2)) : Pred) (us 42) wr at h10
      change us 43 = _ at h11
      rw [h11]
      clear h11
      generalize us 32 = v32
      generalize us 33 = v33
      generalize us 34 = v34
      generalize us 35 = v35
      generalize us 36 = v36
      generalize us 37 = v37
      generalize us 38 = v38
      generalize us 39 = v39
      generalize us 40 = v40
      generalize us 41 = v41
      generalize us 42 = v42 at h10 ⊢
      obtain ⟨hG1, -⟩ := hG
      change wr.ownsRow lo 53 2 v42 (k + 1) (xs.take (i * 2) ++ CM.toList ++ xs.drop (i * 2)) at h10
      obtain ⟨A6, c6, rfl, -⟩ := ownk_form h10
      have HO9 := Lib.hid h10
      have HXR : Hid (wr.heap[bx]? = some (.cells #[.int .u64 (n : Int), .slice A2 k c2] 27 (0, 0))) := (hG1.block bx (row_lt HX23.out) (fun e => by have := (HOB.out bx e.symm).2; omega)).trans HX23.out
      have HGR : Hid (wr.heap[g]? = some (.cells #[.int .u64 0, .slice none 0 0] 27 (0, 0))) := (hG1.block g (row_lt HX13.out) (fun e => by have := (HOB.out g e.symm).1; have := HLB.out.2.2.1; omega)).trans HX13.out
      have HB9 : Hid (Below w.heap.size w wr) := HB3.out.trans (below_grown hG1 HB3.out.size (fun q hq => by have := (HOB.out q hq).1; have := HLB.out.1; omega))
      have HBX : Hid (lo ≤ bx) := by have := HLB.out.2.2.2; have := HHH.out; show _ ≤ _; omega
      clear h10 hG1
      refine wp_store_fld 25 (.tmp 43) (.tmp 42) rfl bx 1 rfl (.slice A6 (k + 1) c6) rfl 27 #[.int .u64 (n : Int), .slice A2 k c2] HXR.out (by simp) (by kernel_rfl) rfl ?_
      have HXS : Hid ((wr.setRow bx #[.int .u64 (n : Int), .slice A6 (k + 1) c6]).heap[bx]? = some (.cells #[.int .u64 (n : Int), .slice A6 (k + 1) c6] 27 (0, 0))) := setRow_heap _ _ _ _ _ _ HXR.out
      have HGS : Hid ((wr.setRow bx #[.int .u64 (n : Int), .slice A6 (k + 1) c6]).heap[g]? = some (.cells #[.int .u64 0, .slice none 0 0] 27 (0, 0))) := (setRow_other _ _ _ _ (by have := HLB.out.2.2.1; have := HBX.out; omega)).trans HGR.out
      have HOS : Hid ((wr.setRow bx #[.int .u64 (n : Int), .slice A6 (k + 1) c6]).ownsRow lo 53 2 (.slice A6 (k + 1) c6) (k + 1) _) := ownk_other HO9.out HXR.out (by decide) fun j hj => setRow_other _ _ _ _ hj
      have HBS : Hid (Below w.heap.size w (wr.setRow bx #[.int .u64 (n : Int), .slice A6 (k + 1) c6])) := below_setRow HB9.out (by have := HLB.out.1; have := HBX.out; omega) _
      change Exit.then _ _ _ _ (wr.setRow bx #[.int .u64 (n : Int), .slice A6 (k + 1) c6])
      generalize wr.setRow bx #[.int .u64 (n : Int), .slice A6 (k + 1) c6] = w9 at HXS HGS HOS HBS ⊢
      clear HO9 HXR HGR HB9
      simp only [Act.put]
      go_wp2_with (first | (refine wpList_load_row rfl 27 _ rfl bx rfl 27 #[.int .u64 (n : Int), .slice A6 (k + 1) c6] (0, 0) _ HXS.out Try.underlying27 rfl (by kernel_rfl) ?_) | (refine wpList_store_row rfl 27 _ _ rfl g #[.int .u64 (n : Int), .slice A6 (k + 1) c6] rfl rfl 27 #[.int .u64 0, .slice none 0 0] HGS.out (by kernel_rfl) rfl (by simp [Value.oneCell']) ?_))
      refine ret_two (g := g) rfl rfl (setRow_heap _ _ _ _ _ _ HGS.out) Try.underlying27 rfl (by kernel_rfl) rfl ?_
      rw [HV.out]
      refine ⟨_, rfl, ⟨_, rfl, TlT.own (base := lo) (k := 2) ?_⟩, below_setRow HBS.out (by have := HG.out; have := HBB.out; omega) _⟩
      · rw [HIL.out, HIB2.out, ← HRW.out]
        exact ownk_other HOS.out HGS.out (by decide) fun j hj => setRow_other _ _ _ _ hj
    · obtain rfl : after = 1 := by omega
      have hat2 : (n : Int) + 1 = (at_ : Int) := by omega
      clear hat hmx
      go_upto_region 7 with (fail)
      have HMS : Hid ((tmA ⟨id, at_⟩).size = 2) := tmE.size _
      have HM1 : Hid (∀ u ∈ (tmA ⟨id, at_⟩).toList, u.oneCell' = true) := el_ones tmE _
      have HRW := Lib.hid (rows_ins tmE F i ⟨id, at_⟩)
      have HR1 := Lib.hid (rows_ones tmE F)
      have HUN : Hid (∀ w' : World, w'.ownsRow lo 53 2 (.slice A2 k c2) k (rowsOf tmA F) → Calls Try.prog 21 #[.slice A2 k c2, .int .u64 (at_ : Int)] w' fun e w'' => e = .returned (.int .i64 (i : Int)) ∧ Below w'.heap.size w' w'') := fun w' ho => by
        have := until_any (.slice A2 k c2) F at_ w' (SlT.own (by rw [HKL.out]; exact ho)) (by rw [HKL.out]; omega)
        rwa [HIX.out] at this
      obtain ⟨xs, hxs⟩ : ∃ xs, rowsOf tmA F = xs := ⟨_, rfl⟩
      rw [hxs] at HRW HR1 HO3 HUN
      have HCMV : Hid (tmA ⟨id, at_⟩ = #[.int .i64 id, .int .u64 (at_ : Int)]) := rfl
      obtain ⟨CM, hCM⟩ : ∃ CM, tmA ⟨id, at_⟩ = CM := ⟨_, rfl⟩
      rw [hCM] at HMS HM1 HRW HCMV
      have HLS : Hid (lo ≤ w3.heap.size) := Nat.le_trans HLB.out.2.2.2 (by have := row_lt HX23.out; have := HHH.out; omega)
      have HB3S : Hid (bx < w3.heap.size) := row_lt HX23.out
      clear hxs hCM a0 a1 e0 e1 hat2
      apply wp_region_relyL [10] (fun Ld w' => w3.grownBy w' (Value.slice A2 k c2).ownBlock ∧ (Ld 10 = false → w'.ownsRow lo 53 2 (.slice A2 k c2) k xs)) (RL [Is _, Is (.slice A2 k c2), Is _, Is (.slice A2 k c2), Is _, Is (.int .i64 (i : Int)), Is _, Is _, Is (.agg #[.int .i64 id, .int .u64 (at_ : Int)]), fun v w => ∃ g, v = .slice (some ⟨g, 0, none⟩) 1 1 ∧ w.heap[g]? = some (.cells CM 53 (0, 0)) ∧ w3.heap.size ≤ g, OwnR lo 53 2 (k + 1) (xs.take (i * 2) ++ CM.toList ++ xs.drop (i * 2)), Is (.pointer (some ⟨bx, 1, none⟩))]) [false, false, false, false, false, false, false, false, false, false, false, false, false, false, false, false, false, false, false, false, false, false, false, false, false, false, false, false, false, false, false, false, true, true, true, true, true, true, true, true, true, true, true, true, false] _ rfl
      · kernel_rfl
      · kernel_rfl
      · kernel_rfl
      · kernel_rfl
      · refine ⟨?_, ?_, ?_, ?_, ?_, ?_, ?_, ?_, ?_, ?_, ?_, ?_, trivial⟩
        · intro Ld ev w' hC hL hx K hK
          have e8 : ev (.tmp 8) = _ := hx.base 8 (by kernel_rfl)
          have HK := Lib.hid hK
          have HC := Lib.hid hC
          have HL := Lib.hid hL
          have HX := Lib.hid hx
          have hc := hx.cst
          skip
          clear hx hK hC hL
          unfold Run
          simp [execOp, Upon, go_sem, *]
          exact HK.out _ _ (.inl ⟨Below.refl _ _, by decide⟩) rfl
        · intro Ld ev w' hC hL hx K hK
          have e32 := hx.held 0 _ rfl (by kernel_rfl)
          change ev (.tmp 32) = _ at e32
          have HK := Lib.hid hK
          have HC := Lib.hid hC
          have HL := Lib.hid hL
          have HX := Lib.hid hx
          have hc := hx.cst
          skip
          clear hx hK hC hL
          have q1 : ev (.tmp 32) = .pointer (some ⟨bx, 1, none⟩) := e32
          have hld := run_loadVar_cell (P := Try.prog) w' ⟨bx, 1, none⟩ 25 (.slice A2 k c2) _ ((cell_of_row _ _ _ _ _ _ ((HC.out.1.block bx (row_lt HX23.out) (fun e => by have := (HOB.out bx e.symm).2; omega)).trans HX23.out)).trans rfl) Try.underlying25 rfl
          unfold Run
          rw [rely_load 25 _ rfl q1 hld]
          exact HK.out _ _ (.inl ⟨Below.refl _ _, by decide⟩) rfl
        · intro Ld ev w' hC hL hx K hK
          have e8 : ev (.tmp 8) = _ := hx.base 8 (by kernel_rfl)
          have HK := Lib.hid hK
          have HC := Lib.hid hC
          have HL := Lib.hid hL
          have HX := Lib.hid hx
          have hc := hx.cst
          skip
          clear hx hK hC hL
          unfold Run
          simp [execOp, Upon, go_sem, *]
          exact HK.out _ _ (.inl ⟨Below.refl _ _, by decide⟩) rfl
        · intro Ld ev w' hC hL hx K hK
          have e34 := hx.held 2 _ rfl (by kernel_rfl)
          change ev (.tmp 34) = _ at e34
          have HK := Lib.hid hK
          have HC := Lib.hid hC
          have HL := Lib.hid hL
          have HX := Lib.hid hx
          have hc := hx.cst
          skip
          clear hx hK hC hL
          have q1 : ev (.tmp 34) = .pointer (some ⟨bx, 1, none⟩) := e34
          have hld := run_loadVar_cell (P := Try.prog) w' ⟨bx, 1, none⟩ 25 (.slice A2 k c2) _ ((cell_of_row _ _ _ _ _ _ ((HC.out.1.block bx (row_lt HX23.out) (fun e => by have := (HOB.out bx e.symm).2; omega)).trans HX23.out)).trans rfl) Try.underlying25 rfl
          unfold Run
          rw [rely_load 25 _ rfl q1 hld]
          exact HK.out _ _ (.inl ⟨Below.refl _ _, by decide⟩) rfl
        · intro Ld ev w' hC hL hx K hK
          have e10 : ev (.tmp 10) = _ := hx.base 10 (by kernel_rfl)
          have HK := Lib.hid hK
          have HC := Lib.hid hC
          have HL := Lib.hid hL
          have HX := Lib.hid hx
          have hc := hx.cst
          skip
          clear hx hK hC hL
          unfold Run
          simp [execOp, Upon, go_sem, *]
          exact HK.out _ _ (.inl ⟨Below.refl _ _, by decide⟩) rfl
        · intro Ld ev w' hC hL hx K hK
          have e35 := hx.held 3 _ rfl (by kernel_rfl)
          have e36 := hx.held 4 _ rfl (by kernel_rfl)
          change ev (.tmp 35) = _ at e35
          change ev (.tmp 36) = _ at e36
          have HK := Lib.hid hK
          have HC := Lib.hid hC
          have HL := Lib.hid hL
          have HX := Lib.hid hx
          have hc := hx.cst
          have hf := hx.fn
          clear hx hK hC hL
          have hL10 : Ld 10 = false := Bool.eq_false_iff.2 fun h => by have h1 := HX.out.closed 10 _ 5 rfl h (by kernel_rfl); rw [HL.out] at h1; cases h1
          have HQB := Lib.hid (HUN.out w' (HC.out.2 hL10))
          clear hL10
          unfold Run
          simp [execOp, Upon, go_sem, *]
          refine HQB.out.mono ?_
          rintro e w9 ⟨rfl, hb9⟩
          exact ⟨_, rfl, HK.out _ _ (.inl ⟨hb9, by decide⟩) rfl⟩
        · intro Ld ev w' hC hL hx K hK
          have e1 : ev (.tmp 1) = _ := hx.base 1 (by kernel_rfl)
          have HK := Lib.hid hK
          have HC := Lib.hid hC
          have HL := Lib.hid hL
          have HX := Lib.hid hx
          have hc := hx.cst
          skip
          clear hx hK hC hL
          unfold Run
          simp [execOp, Upon, go_sem, *]
          exact HK.out _ _ (.inl ⟨Below.refl _ _, by decide⟩) rfl
        · intro Ld ev w' hC hL hx K hK
          have e10 : ev (.tmp 10) = _ := hx.base 10 (by kernel_rfl)
          have HK := Lib.hid hK
          have HC := Lib.hid hC
          have HL := Lib.hid hL
          have HX := Lib.hid hx
          have hc := hx.cst
          skip
          clear hx hK hC hL
          unfold Run
          simp [execOp, Upon, go_sem, *]
          exact HK.out _ _ (.inl ⟨Below.refl _ _, by decide⟩) rfl
        · intro Ld ev w' hC hL hx K hK
          have e38 := hx.held 6 _ rfl (by kernel_rfl)
          have e39 := hx.held 7 _ rfl (by kernel_rfl)
          change ev (.tmp 38) = _ at e38
          change ev (.tmp 39) = _ at e39
          have HK := Lib.hid hK
          have HC := Lib.hid hC
          have HL := Lib.hid hL
          have HX := Lib.hid hx
          have hc := hx.cst
          skip
          clear hx hK hC hL
          unfold Run
          simp [execOp, Upon, go_sem, *]
          exact HK.out _ _ (.inl ⟨Below.refl _ _, by decide⟩) rfl
        · intro Ld ev w' hC hL hx K hK
          have e40 := hx.held 8 _ rfl (by kernel_rfl)
          change ev (.tmp 40) = _ at e40
          have HK := Lib.hid hK
          have HC := Lib.hid hC
          have HL := Lib.hid hL
          have HX := Lib.hid hx
          have hc := hx.cst
          skip
          clear hx hK hC hL
          have q40 : ev (.tmp 40) = .agg CM := by rw [HCMV.out]; exact e40
          have hrun := run_build_one (P := Try.prog) w' 25 53 CM Try.underlying25 2 (by decide) (by decide) (by kernel_rfl) HMS.out
          unfold Run
          rw [run_buildE 25 _ rfl q40 hrun]
          exact HK.out _ _ (.inl ⟨(Below.refl _ _).alloc (Nat.le_refl _) _, by decide⟩) ⟨_, rfl, heap_alloc_new w' _, HC.out.1.size⟩
        · intro Ld ev w' hC hL hx K hK
          have e33 := hx.held 1 _ rfl (by kernel_rfl)
          have e37 := hx.held 5 _ rfl (by kernel_rfl)
          have e41 := hx.held 9 _ rfl (by kernel_rfl)
          change ev (.tmp 33) = _ at e33
          change ev (.tmp 37) = _ at e37
          change (fun v w => ∃ g, v = .slice (some ⟨g, 0, none⟩) 1 1 ∧ w.heap[g]? = some (.cells CM 53 (0, 0)) ∧ w3.heap.size ≤ g : Pred) (ev (.tmp 41)) w' at e41
          have HK := Lib.hid hK
          have HC := Lib.hid hC
          have HL := Lib.hid hL
          have HX := Lib.hid hx
          have hc := hx.cst
          have hf := hx.fn
          clear hx hK hC hL
          obtain ⟨gk, q41, hgk, hgl⟩ := e41
          have q33 : ev (.tmp 33) = .slice A2 k c2 := e33
          have HIN := Lib.hid (inW_any (.slice A2 k c2) k i lo gk CM xs w' HMS.out HM1.out (HC.out.2 HL.out) HR1.out hgk (fun g hg => by have := (HOB.out g hg).2; have := HB3S.out; omega) (by omega) hile (Nat.le_trans HLS.out HC.out.1.size))
          clear hgk
          unfold Run
          simp [execOp, Upon, go_sem, *]
          refine HIN.out.mono ?_
          rintro e w9 ⟨v9, rfl, ho9, hg9⟩
          refine ⟨_, rfl, HK.out _ _ (.inr ⟨⟨HC.out.1.trans hg9, fun h => by simp [upd] at h⟩, fun j hj hlj u hr => ?_⟩) ho9⟩
          refine rl_sg (S := fun x y => w3.heap.size ≤ x.heap.size ∧ x.grownBy y (Value.slice A2 k c2).ownBlock) (ex := [10]) 0 (by exact ⟨.inr (is_sg _ _), .inr (is_sg _ _), .inr (is_sg _ _), .inr (is_sg _ _), .inr (is_sg _ _), .inr (is_sg _ _), .inr (is_sg _ _), .inr (is_sg _ _), .inr (is_sg _ _), .inr (fun u x y hxy ⟨g, h1, h2, h3⟩ => ⟨g, h1, (hxy.2.block g (row_lt h2) (fun e => by have := (HOB.out g e.symm).2; have := HB3S.out; omega)).trans h2, h3⟩), .inl rfl, .inr (is_sg _ _), trivial⟩) j u _ _ ?_ ⟨HC.out.1.size, hg9⟩ hr
          simp at hj ⊢
          omega
        · intro Ld ev w' hC hL hx K hK
          have e8 : ev (.tmp 8) = _ := hx.base 8 (by kernel_rfl)
          have HK := Lib.hid hK
          have HC := Lib.hid hC
          have HL := Lib.hid hL
          have HX := Lib.hid hx
          have hc := hx.cst
          skip
          clear hx hK hC hL
          unfold Run
          simp [execOp, Upon, go_sem, *]
          exact HK.out _ _ (.inl ⟨Below.refl _ _, by decide⟩) rfl
      · exact rl_mono ⟨is_mono _, is_mono _, is_mono _, is_mono _, is_mono _, is_mono _, is_mono _, is_mono _, is_mono _, fun _ _ _ hb ⟨g, h1, h2, h3⟩ => ⟨g, h1, (hb.block g (row_lt h2)).trans h2, h3⟩, ownr_mono _ _ _ _ _, is_mono _, trivial⟩
      · exact fun L1 L2 w1 he h => ⟨h.1, fun hh => h.2 (by rw [he 10 (by simp)]; exact hh)⟩
      · exact fun L1 w1 w2 hb h => ⟨grown_below h.1 hb, fun hh => ownk_below (h.2 hh) hb (Nat.le_refl _)⟩
      · exact ⟨World.grownBy.refl _ _, fun _ => HO3.out⟩
      · simp
      intro us wr hG hH
      obtain ⟨-, -, -, -, -, -, -, -, -, -, h10, h11, -⟩ := hH
      simp only [fillM]
      change (OwnR lo 53 2 (k + 1) (xs.take (i * 2) ++ CM.toList ++ xs.drop (i * 2)) : Pred) (us 42) wr at h10
      change us 43 = _ at h11
      rw [h11]
      clear h11
      generalize us 32 = v32
      generalize us 33 = v33
      generalize us 34 = v34
      generalize us 35 = v35
      generalize us 36 = v36
      generalize us 37 = v37
      generalize us 38 = v38
      generalize us 39 = v39
      generalize us 40 = v40
      generalize us 41 = v41
      generalize us 42 = v42 at h10 ⊢
      obtain ⟨hG1, -⟩ := hG
      change wr.ownsRow lo 53 2 v42 (k + 1) (xs.take (i * 2) ++ CM.toList ++ xs.drop (i * 2)) at h10
      obtain ⟨A6, c6, rfl, -⟩ := ownk_form h10
      have HO9 := Lib.hid h10
      have HXR : Hid (wr.heap[bx]? = some (.cells #[.int .u64 (n : Int), .slice A2 k c2] 27 (0, 0))) := (hG1.block bx (row_lt HX23.out) (fun e => by have := (HOB.out bx e.symm).2; omega)).trans HX23.out
      have HGR : Hid (wr.heap[g]? = some (.cells #[.int .u64 0, .slice none 0 0] 27 (0, 0))) := (hG1.block g (row_lt HX13.out) (fun e => by have := (HOB.out g e.symm).1; have := HLB.out.2.2.1; omega)).trans HX13.out
      have HB9 : Hid (Below w.heap.size w wr) := HB3.out.trans (below_grown hG1 HB3.out.size (fun q hq => by have := (HOB.out q hq).1; have := HLB.out.1; omega))
      have HBX : Hid (lo ≤ bx) := by have := HLB.out.2.2.2; have := HHH.out; show _ ≤ _; omega
      clear h10 hG1
      refine wp_store_fld 25 (.tmp 43) (.tmp 42) rfl bx 1 rfl (.slice A6 (k + 1) c6) rfl 27 #[.int .u64 (n : Int), .slice A2 k c2] HXR.out (by simp) (by kernel_rfl) rfl ?_
      have HXS : Hid ((wr.setRow bx #[.int .u64 (n : Int), .slice A6 (k + 1) c6]).heap[bx]? = some (.cells #[.int .u64 (n : Int), .slice A6 (k + 1) c6] 27 (0, 0))) := setRow_heap _ _ _ _ _ _ HXR.out
      have HGS : Hid ((wr.setRow bx #[.int .u64 (n : Int), .slice A6 (k + 1) c6]).heap[g]? = some (.cells #[.int .u64 0, .slice none 0 0] 27 (0, 0))) := (setRow_other _ _ _ _ (by have := HLB.out.2.2.1; have := HBX.out; omega)).trans HGR.out
      have HOS : Hid ((wr.setRow bx #[.int .u64 (n : Int), .slice A6 (k + 1) c6]).ownsRow lo 53 2 (.slice A6 (k + 1) c6) (k + 1) _) := ownk_other HO9.out HXR.out (by decide) fun j hj => setRow_other _ _ _ _ hj
      have HBS : Hid (Below w.heap.size w (wr.setRow bx #[.int .u64 (n : Int), .slice A6 (k + 1) c6])) := below_setRow HB9.out (by have := HLB.out.1; have := HBX.out; omega) _
      change Exit.then _ _ _ _ (wr.setRow bx #[.int .u64 (n : Int), .slice A6 (k + 1) c6])
      generalize wr.setRow bx #[.int .u64 (n : Int), .slice A6 (k + 1) c6] = w9 at HXS HGS HOS HBS ⊢
      clear HO9 HXR HGR HB9
      simp only [Act.put]
      go_wp2_with (first | (refine wpList_load_row rfl 27 _ rfl bx rfl 27 #[.int .u64 (n : Int), .slice A6 (k + 1) c6] (0, 0) _ HXS.out Try.underlying27 rfl (by kernel_rfl) ?_) | (refine wpList_store_row rfl 27 _ _ rfl g #[.int .u64 (n : Int), .slice A6 (k + 1) c6] rfl rfl 27 #[.int .u64 0, .slice none 0 0] HGS.out (by kernel_rfl) rfl (by simp [Value.oneCell']) ?_))
      refine ret_two (g := g) rfl rfl (setRow_heap _ _ _ _ _ _ HGS.out) Try.underlying27 rfl (by kernel_rfl) rfl ?_
      rw [HV.out]
      refine ⟨_, rfl, ⟨_, rfl, TlT.own (base := lo) (k := 2) ?_⟩, below_setRow HBS.out (by have := HG.out; have := HBB.out; omega) _⟩
      · rw [HIL.out, HIB2.out, ← HRW.out]
        exact ownk_other HOS.out HGS.out (by decide) fun j hj => setRow_other _ _ _ _ hj
end Go.Proofs.Ytljochpomgjjeaa
