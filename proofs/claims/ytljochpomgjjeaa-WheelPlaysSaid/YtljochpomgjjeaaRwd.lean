/-
  The code's Stop of wheels. Every right wheel.
-/
import Derived.Test.YtljochpomgjjeaaRwb
import Derived.Test.YtljochpomgjjeaaDlW
namespace Go.Proofs.Ytljochpomgjjeaa
open Go.RowKit

theorem filter_all {T : List Tm} {id : Int} (h : T.findIdx? (isI id) = none) : T.filter (notI id) = T := List.filter_eq_self.2 fun x hx => by
  have := List.findIdx?_eq_none_iff.1 h x hx
  unfold isI at this
  unfold notI
  simpa using this
theorem filter_erase {T : List Tm} {id : Int} {i : Nat} (hp : T.Pairwise before) (h : T.findIdx? (isI id) = some i) : T.filter (notI id) = T.eraseIdx i := by
  obtain ⟨hi, hx, hn⟩ := List.findIdx?_eq_some_iff_getElem.1 h
  have hxi : T[i].id = id := of_decide_eq_true hx
  have hs : T = T.take i ++ T[i] :: T.drop (i + 1) := by rw [← List.drop_eq_getElem_cons hi, List.take_append_drop]
  have h1 : (T.take i).filter (notI id) = T.take i := List.filter_eq_self.2 fun x hx => by
    obtain ⟨j, hj, rfl⟩ := List.mem_iff_getElem.1 hx
    rw [List.length_take] at hj
    rw [List.getElem_take]
    have := hn j (by omega)
    unfold isI at this
    unfold notI
    simpa using this
  have h2 : (T.drop (i + 1)).filter (notI id) = T.drop (i + 1) := List.filter_eq_self.2 fun x hx => by
    obtain ⟨j, hj, rfl⟩ := List.mem_iff_getElem.1 hx
    rw [List.length_drop] at hj
    rw [List.getElem_drop]
    have := (List.pairwise_iff_getElem.1 hp i (i + 1 + j) hi (by omega) (by omega)).1
    rw [hxi] at this
    exact decide_eq_true fun e => this e.symm
  have h3 : notI id T[i] = false := decide_eq_false fun hh => hh hxi
  rw [List.eraseIdx_eq_take_drop_succ]
  conv => lhs; rw [hs]
  rw [List.filter_append, List.filter_cons, h1, h2, h3]
  rfl
theorem rows_erase {α : Type} {f : α → Array Value} {k : Nat} (E : El f k) (K : List α) (i : Nat) : (rowsOf f K).take (i * k) ++ (rowsOf f K).drop (i * k + k) = rowsOf f (K.eraseIdx i) := by
  rw [List.eraseIdx_eq_take_drop_succ, rows_append, rows_take E, ← rows_drop E, show (i + 1) * k = i * k + k from Nat.add_one_mul _ _]
set_option maxRecDepth 100000 in
set_option maxHeartbeats 8000000 in
theorem stopw_any (v : Value) (n : Nat) (T : List Tm) (id : Int) (w : World) (hv : WhS w v n T) (hR : rightW n T = true) :
    Calls Try.prog 11 #[v, .int .i64 id] w fun e w' => ∃ v', e = .returned (.tuple #[v', .bool (someD T id)]) ∧ OwnW w' w.heap.size v' n (T.filter (notI id)) ∧ Below w.heap.size w w' := by
  have hl := right_len hR
  obtain ⟨s, rfl, hs⟩ := hv
  have hso := hs.one
  obtain ⟨n1, hnn⟩ : ∃ n1, T.length = n1 := ⟨_, rfl⟩
  have HN := Lib.hid hnn
  obtain ⟨w1, hw1⟩ : ∃ w1, (w.alloc (.cells #[.int .u64 (n : Int), s] 27)).alloc (.cells #[.int .u64 0, .slice none 0 0] 27) = w1 := ⟨_, rfl⟩
  have HB1 : Hid (Below w.heap.size w w1) := by rw [← hw1]; exact ((Below.refl _ _).alloc (Nat.le_refl _) _).alloc (by simp) _
  have HX0 : Hid (w1.heap[w.heap.size]? = some (.cells #[.int .u64 (n : Int), s] 27 (0, 0))) := by rw [← hw1]; exact old_alloc (heap_alloc_new w _) _
  have HX1 : Hid (w1.heap[w.heap.size + 1]? = some (.cells #[.int .u64 0, .slice none 0 0] 27 (0, 0))) := by rw [← hw1]; exact new_at1 w _ _
  have HS1 : Hid (w.heap.size + 2 ≤ w1.heap.size) := by show _ ≤ _; rw [← hw1]; simp
  have HW := Lib.hid hw1
  have HCL := Lib.hid (clonew_any (.agg #[.int .u64 (n : Int), s]) n T w1 ⟨s, rfl, hs.below HB1.out⟩ (by omega))
  rw [hnn] at hl
  obtain ⟨b, hb⟩ : ∃ b, w.heap.size = b := ⟨_, rfl⟩
  obtain ⟨g, hg⟩ : ∃ g, b + 1 = g := ⟨_, rfl⟩
  have HBB := Lib.hid hb
  rw [hb] at HX0 HX1 HS1
  rw [hg] at HX1
  have HG := Lib.hid hg
  have HNE : Hid (b ≠ g) := by show _ ≠ _; omega
  obtain ⟨lo, hlo⟩ : ∃ lo, w1.heap.size = lo := ⟨_, rfl⟩
  have HLO := Lib.hid hlo
  rw [hlo] at HCL HS1
  have hbg : b < lo ∧ g < lo := ⟨by have := HS1.out; omega, by have := HS1.out; omega⟩
  have HBG := Lib.hid hbg
  clear hw1 hg hb hnn hs hlo hbg
  go_enter Try.func11, Try.ntmps11
  go_upto_region 1 with (fail)
  change Code.wp _ _ _ _ ((w.alloc (.cells #[.int .u64 (n : Int), s] 27)).alloc (.cells #[.int .u64 0, .slice none 0 0] 27))
  rw [HW.out, HBB.out, HG.out]
  clear HW
  go_wp2_with (refine wpList_load_row rfl 27 _ rfl b rfl 27 #[.int .u64 (n : Int), s] (0, 0) _ HX0.out Try.underlying27 rfl (by kernel_rfl) ?_)
  refine HCL.out.mono ?_
  rintro e w2 ⟨v2, rfl, ⟨s2, rfl, ho⟩, hb2⟩
  rw [HN.out] at ho
  obtain ⟨A2, c2, rfl, hnc, hcm, -⟩ := ownk_form ho
  have hcm2 : c2 ≤ 9223372036854775807 := by unfold maxLen at hcm; omega
  have HO2 := Lib.hid ho
  have HX02 := Lib.hid (old_below HX0.out hb2 HBG.out.1)
  have HX12 := Lib.hid (old_below HX1.out hb2 HBG.out.2)
  have HB2 : Hid (Below w.heap.size w w2) := HB1.out.trans (hb2.mono (by rw [← HLO.out]; exact HB1.out.size))
  clear ho hb2 hcm HCL HX0 HX1 HB1
  go_upto_region 2 with (refine wpList_store_row rfl 27 _ _ rfl b #[.int .u64 (n : Int), .slice A2 n1 c2] rfl rfl 27 #[.int .u64 (n : Int), s] HX02.out (by kernel_rfl) rfl (by simp [Value.oneCell']) ?_)
  have HX03 : Hid ((w2.setRow b #[.int .u64 (n : Int), .slice A2 n1 c2]).heap[b]? = some (.cells #[.int .u64 (n : Int), .slice A2 n1 c2] 27 (0, 0))) := setRow_heap _ _ _ _ _ _ HX02.out
  have HX13 : Hid ((w2.setRow b #[.int .u64 (n : Int), .slice A2 n1 c2]).heap[g]? = some (.cells #[.int .u64 0, .slice none 0 0] 27 (0, 0))) := (setRow_other _ _ _ _ (Ne.symm HNE.out)).trans HX12.out
  have HO3 : Hid ((w2.setRow b #[.int .u64 (n : Int), .slice A2 n1 c2]).ownsRow lo 53 2 (.slice A2 n1 c2) n1 (rowsOf tmA T)) := ownk_other HO2.out HX02.out (by decide) fun j hj => setRow_other _ _ _ _ hj
  have HB3 : Hid (Below w.heap.size w (w2.setRow b #[.int .u64 (n : Int), .slice A2 n1 c2])) := below_setRow HB2.out (Nat.le_of_eq HBB.out) _
  generalize w2.setRow b #[.int .u64 (n : Int), .slice A2 n1 c2] = w3 at HX03 HX13 HO3 HB3 ⊢
  clear HX02 HX12 HO2 HB2
  have HP := Lib.hid (place_any (.slice A2 n1 c2) T id w3 (SlT.own (by rw [HN.out]; exact HO3.out)) (by rw [HN.out]; omega))
  obtain ⟨a0, a1⟩ := two_cells HX03.out
  rcases idxV_cases (isI id) T with ⟨hi, hf⟩ | ⟨i, hi, hin, hf⟩
  · have HF := Lib.hid (filter_all hf)
    have HV : Hid (someD T id = false) := by
      show _ = _
      unfold someD
      rw [HF.out]
      exact decide_eq_false (Nat.lt_irrefl _)
    rw [hi] at HP
    clear hi hf
    go_wp2_with fail
    refine HP.out.mono ?_
    rintro e w4 ⟨rfl, hb4⟩
    have HX04 := Lib.hid (old_below HX03.out hb4 (row_lt HX03.out))
    have HX14 := Lib.hid (old_below HX13.out hb4 (row_lt HX13.out))
    have HO4 := Lib.hid (ownk_below HO3.out hb4 (Nat.le_refl _))
    have HB4 := Lib.hid (HB3.out.trans (hb4.mono HB3.out.size))
    clear a0 a1 hb4
    go_wp2_with (first | (refine wpList_load_row rfl 27 _ rfl b rfl 27 #[.int .u64 (n : Int), .slice A2 n1 c2] (0, 0) _ HX04.out Try.underlying27 rfl (by kernel_rfl) ?_) | (refine wpList_store_row rfl 27 _ _ rfl g #[.int .u64 (n : Int), .slice A2 n1 c2] rfl rfl 27 #[.int .u64 0, .slice none 0 0] HX14.out (by kernel_rfl) rfl (by simp [Value.oneCell']) ?_))
    refine ret_two (g := g) rfl rfl (setRow_heap _ _ _ _ _ _ HX14.out) Try.underlying27 rfl (by kernel_rfl) rfl ?_
    rw [HV.out]
    refine ⟨_, rfl, ⟨_, rfl, ?_⟩, below_setRow HB4.out (by have := HG.out; have := HBB.out; omega) _⟩
    rw [HF.out, HN.out]
    exact ownk_other (ownk_base HO4.out (by have := HBG.out.1; have := HBB.out; omega)) HX14.out (by decide) fun j hj => setRow_other _ _ _ _ hj
  · have HF := Lib.hid (filter_erase (rightW_iff.1 hR).2.2.1 hf)
    have HV : Hid (someD T id = true) := by
      show _ = _
      unfold someD
      rw [HF.out]
      exact decide_eq_true (by rw [List.length_eraseIdx, if_pos hin]; omega)
    rw [HN.out] at hin
    obtain ⟨q, hq⟩ : ∃ q, n1 = q + 1 := ⟨n1 - 1, by omega⟩
    subst hq
    have HEL : Hid ((T.eraseIdx i).length = q) := by
      have := HN.out
      show _ = _
      rw [List.length_eraseIdx, if_pos (by omega)]
      omega
    rw [hi] at HP
    have hi0 : ¬ (i : Int) < 0 := by omega
    obtain ⟨g2, c3, cur, hsl, hlo2, -, -, -, -, -⟩ := ownk_some HO3.out (by omega)
    injection hsl with hA2 _ hc3
    subst hA2 hc3
    have HGL := Lib.hid hlo2
    clear hi hf hlo2
    go_wp2_with fail
    refine HP.out.mono ?_
    rintro e w4 ⟨rfl, hb4⟩
    have HX04 := Lib.hid (old_below HX03.out hb4 (row_lt HX03.out))
    have HX14 := Lib.hid (old_below HX13.out hb4 (row_lt HX13.out))
    have HO4 := Lib.hid (ownk_below HO3.out hb4 (Nat.le_refl _))
    have HB4 := Lib.hid (HB3.out.trans (hb4.mono HB3.out.size))
    have HD := Lib.hid (dlW_any g2 q c2 i lo (rowsOf tmA T) w4 HO4.out (rows_ones tmE T) (by omega) (by omega))
    clear a0 a1 hb4
    obtain ⟨a0, a1⟩ := two_cells HX04.out
    go_wp2_with fail
    refine HD.out.mono ?_
    rintro e w5 ⟨rfl, ho5, hg5⟩
    have HO5 := Lib.hid ho5
    have HX05 : Hid (w5.heap[b]? = some (.cells #[.int .u64 (n : Int), .slice (some ⟨g2, 0, none⟩) (q + 1) c2] 27 (0, 0))) := (hg5.block b (row_lt HX04.out) (fun e => by have := HBG.out.1; have := HGL.out; injection e with e; omega)).trans HX04.out
    have HX15 : Hid (w5.heap[g]? = some (.cells #[.int .u64 0, .slice none 0 0] 27 (0, 0))) := (hg5.block g (row_lt HX14.out) (fun e => by have := HBG.out.2; have := HGL.out; injection e with e; omega)).trans HX14.out
    have HB5 : Hid (Below w.heap.size w w5) := HB4.out.trans (below_grown (v := .slice (some ⟨g2, 0, none⟩) (q + 1) c2) hg5 HB4.out.size (fun k hk => by have hk : some g2 = some k := hk; injection hk with hk; have := HBG.out.1; have := HGL.out; have := HBB.out; omega))
    clear ho5 hg5 HD a0 a1
    obtain ⟨a0, a1⟩ := two_cells HX05.out
    have hfz := frozen_of_row w5 b 1 _ _ HX05.out
    go_upto_region 6 with (fail)
    rw [row2 HX05.out]
    have HX06 : Hid ((w5.setRow b #[.int .u64 (n : Int), .slice (some ⟨g2, 0, none⟩) q c2]).heap[b]? = some (.cells #[.int .u64 (n : Int), .slice (some ⟨g2, 0, none⟩) q c2] 27 (0, 0))) := setRow_heap _ _ _ _ _ _ HX05.out
    have HX16 : Hid ((w5.setRow b #[.int .u64 (n : Int), .slice (some ⟨g2, 0, none⟩) q c2]).heap[g]? = some (.cells #[.int .u64 0, .slice none 0 0] 27 (0, 0))) := (setRow_other _ _ _ _ (Ne.symm HNE.out)).trans HX15.out
    have HO6 : Hid ((w5.setRow b #[.int .u64 (n : Int), .slice (some ⟨g2, 0, none⟩) q c2]).ownsRow lo 53 2 (.slice (some ⟨g2, 0, none⟩) q c2) q _) := ownk_other HO5.out HX05.out (by decide) fun j hj => setRow_other _ _ _ _ hj
    have HB6 : Hid (Below w.heap.size w (w5.setRow b #[.int .u64 (n : Int), .slice (some ⟨g2, 0, none⟩) q c2])) := below_setRow HB5.out (Nat.le_of_eq HBB.out) _
    generalize w5.setRow b #[.int .u64 (n : Int), .slice (some ⟨g2, 0, none⟩) q c2] = w6 at HX06 HX16 HO6 HB6 ⊢
    clear hfz a0 a1
    go_wp2_with (first | (refine wpList_load_row rfl 27 _ rfl b rfl 27 #[.int .u64 (n : Int), .slice (some ⟨g2, 0, none⟩) q c2] (0, 0) _ HX06.out Try.underlying27 rfl (by kernel_rfl) ?_) | (refine wpList_store_row rfl 27 _ _ rfl g #[.int .u64 (n : Int), .slice (some ⟨g2, 0, none⟩) q c2] rfl rfl 27 #[.int .u64 0, .slice none 0 0] HX16.out (by kernel_rfl) rfl (by simp [Value.oneCell']) ?_))
    refine ret_two (g := g) rfl rfl (setRow_heap _ _ _ _ _ _ HX16.out) Try.underlying27 rfl (by kernel_rfl) rfl ?_
    rw [HV.out]
    refine ⟨_, rfl, ⟨_, rfl, ?_⟩, below_setRow HB6.out (by have := HG.out; have := HBB.out; omega) _⟩
    rw [HF.out, HEL.out, ← rows_erase tmE]
    exact ownk_other (ownk_base HO6.out (by have := HBG.out.1; have := HBB.out; omega)) HX16.out (by decide) fun j hj => setRow_other _ _ _ _ hj
theorem stop_any (v : Value) (n : Nat) (T : List Tm) (id : Int) (w : World) (hv : WhS w v n T) (hR : rightW n T = true) (_hT : ∀ t ∈ T, I64 t.id ∧ t.due < 18446744073709551616) (_hid : I64 id) :
    Calls Try.prog 11 #[v, .int .i64 id] w fun e w' => ∃ v', e = .returned (.tuple #[v', .bool (someD T id)]) ∧ WhT w' v' n (T.filter (notI id)) ∧ Below w.heap.size w w' :=
  (stopw_any v n T id w hv hR).mono (by
    rintro e w' ⟨v', h1, h2, h3⟩
    exact ⟨v', h1, h2.wht, h3⟩)
end Go.Proofs.Ytljochpomgjjeaa
