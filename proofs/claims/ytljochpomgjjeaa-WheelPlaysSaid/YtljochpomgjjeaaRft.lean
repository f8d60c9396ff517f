/-
  The document's Stop and Tick of wheels. Every wheel of at most 1000 timers.
-/
import Derived.Test.YtljochpomgjjeaaRfw
namespace Go.Proofs.Ytljochpomgjjeaa
open Go.RowKit

theorem own_grown {w w' : World} {base k n : Nat} {e : TypeId} {v : Value} {xs : List Value} {row : Option Nat} (h : w.ownsRow base e k v n xs) (hg : w.grownBy w' row) (hr : ∀ g C t fr, row = some g → w.heap[g]? = some (.cells C t fr) → t ≠ e) : w'.ownsRow base e k v n xs := by
  refine ⟨h.1, ?_⟩
  rcases h.2 with h2 | ⟨g, cap, cur, rfl, h1, h2, h3⟩
  · exact .inl h2
  · refine .inr ⟨g, cap, cur, rfl, h1, (hg.block g (row_lt h2) fun he => ?_).trans h2, h3⟩
    exact hr g cur e (0, 0) he.symm h2 rfl
theorem row20 {w : World} {g : Nat} {t : TypeId} {u0 u1 : Value} (h : w.heap[g]? = some (.cells #[u0, u1] t (0, 0))) {v : Value} : w.setCell ⟨g, 0, none⟩ v = w.setRow g #[v, u1] := by
  rw [setCell_eq_setRow w g 0 _ t (0, 0) v h]
  rfl
set_option maxRecDepth 100000 in
set_option maxHeartbeats 8000000 in
theorem refstop_any (v : Value) (n : Nat) (S : List Tm) (id : Int) (w : World) (hv : WhT w v n S) (hl : S.length ≤ 1000) :
    Calls Try.prog 12 #[v, .int .i64 id] w fun e w' => ∃ v', e = .returned (.tuple #[v', .bool (someD S id)]) ∧ WhT w' v' n (S.filter (notI id)) ∧ Below w.heap.size w w' := by
  obtain ⟨s, rfl, hs⟩ := hv
  have HS := Lib.hid hs
  obtain ⟨As, cs, rfl, -, -, hsn, hsc⟩ := hs
  have HLEN := Lib.hid hl
  obtain ⟨sn, hsl⟩ : ∃ sn, S.length = sn := ⟨_, rfl⟩
  have HSL := Lib.hid hsl
  rw [hsl] at HS hsn HLEN ⊢
  have hsc2 : cs ≤ 9223372036854775807 := by unfold maxLen at hsc; omega
  have hs1000 := HLEN.out
  clear hl hsl hsc
  obtain ⟨w1, hw1⟩ : ∃ w1, (w.alloc (.cells #[.int .u64 (n : Int), .slice As sn cs] 29)).alloc (.cells #[.int .u64 0, .slice none 0 0] 29) = w1 := ⟨_, rfl⟩
  have HB1 : Hid (Below w.heap.size w w1) := by rw [← hw1]; exact ((Below.refl _ _).alloc (Nat.le_refl _) _).alloc (by simp) _
  have HX0 : Hid (w1.heap[w.heap.size]? = some (.cells #[.int .u64 (n : Int), .slice As sn cs] 29 (0, 0))) := by rw [← hw1]; exact old_alloc (heap_alloc_new w _) _
  have HX1 : Hid (w1.heap[w.heap.size + 1]? = some (.cells #[.int .u64 0, .slice none 0 0] 29 (0, 0))) := by rw [← hw1]; exact new_at1 w _ _
  have HW := Lib.hid hw1
  have HS1 := Lib.hid (HS.out.below HB1.out)
  obtain ⟨g, hg⟩ : ∃ g, w.heap.size + 1 = g := ⟨_, rfl⟩
  rw [hg] at HX1
  have HG := Lib.hid hg
  have HNE : Hid (w.heap.size ≠ g) := by show _ ≠ _; omega
  clear hw1 hg
  have HWO : Hid (Calls Try.prog 22 #[.slice As sn cs, .int .i64 id] w1 fun e w' => ∃ v', e = .returned v' ∧ w'.ownsRow w1.heap.size 53 2 v' (S.filter (notI id)).length (rowsOf tmA (S.filter (notI id))) ∧ Below w1.heap.size w1 w') := without_any _ S id w1 HS1.out.slt (by rw [HSL.out]; exact HLEN.out)
  have HSD : Hid (someD S id = decide ((S.filter (notI id)).length < sn)) := by show _ = _; unfold someD; rw [HSL.out]
  have HLF : Hid ((S.filter (notI id)).length ≤ sn) := by
    show _ ≤ _
    rw [← HSL.out]
    exact List.length_filter_le _ _
  obtain ⟨F, hF⟩ : ∃ F, S.filter (notI id) = F := ⟨_, rfl⟩
  rw [hF] at HWO HSD HLF ⊢
  obtain ⟨k, hk⟩ : ∃ k, F.length = k := ⟨_, rfl⟩
  rw [hk] at HWO HSD HLF
  have HKL := Lib.hid hk
  have hk1000 : k ≤ 1000 := Nat.le_trans HLF.out HLEN.out
  clear hF hk
  obtain ⟨a0, a1⟩ := two_cells HX0.out
  go_enter Try.func12, Try.ntmps12
  go_upto_region 1 with (fail)
  change Code.wp _ _ _ _ ((w.alloc (.cells #[.int .u64 (n : Int), .slice As sn cs] 29)).alloc (.cells #[.int .u64 0, .slice none 0 0] 29))
  rw [HW.out, HG.out]
  go_wp2_with fail
  refine HWO.out.mono ?_
  rintro e w2 ⟨v2, rfl, hown, hb⟩
  obtain ⟨A2, c2, rfl, h2c, hc2, -⟩ := ownk_form hown
  have hc2b : c2 ≤ 9223372036854775807 := by unfold maxLen at hc2; omega
  have HO2 := Lib.hid hown
  have HX02 := Lib.hid (old_below HX0.out hb (row_lt HX0.out))
  have HX12 := Lib.hid (old_below HX1.out hb (row_lt HX1.out))
  have HB2 := Lib.hid (HB1.out.trans (hb.mono HB1.out.size))
  clear a0 a1 hown hb HX0 HX1 HS1 HWO hc2
  obtain ⟨a0, a1⟩ := two_cells HX02.out
  have hfz := frozen_of_row w2 w.heap.size 1 _ _ HX02.out
  go_upto_region 4 with (fail)
  rw [row2 HX02.out]
  have HX03 : Hid ((w2.setRow w.heap.size #[.int .u64 (n : Int), .slice A2 k c2]).heap[w.heap.size]? = some (.cells #[.int .u64 (n : Int), .slice A2 k c2] 29 (0, 0))) := setRow_heap _ _ _ _ _ _ HX02.out
  have HX13 : Hid ((w2.setRow w.heap.size #[.int .u64 (n : Int), .slice A2 k c2]).heap[g]? = some (.cells #[.int .u64 0, .slice none 0 0] 29 (0, 0))) := (setRow_other _ _ _ _ (Ne.symm HNE.out)).trans HX12.out
  have HO3 : Hid ((w2.setRow w.heap.size #[.int .u64 (n : Int), .slice A2 k c2]).ownsRow w1.heap.size 53 2 (.slice A2 k c2) k (rowsOf tmA F)) := ownk_other HO2.out HX02.out (by decide) fun j hj => setRow_other _ _ _ _ hj
  have HB3 := Lib.hid (below_setRow HB2.out (Nat.le_refl _) #[.int .u64 (n : Int), .slice A2 k c2])
  generalize w2.setRow w.heap.size #[.int .u64 (n : Int), .slice A2 k c2] = w3 at HX03 HX13 HO3 HB3 ⊢
  clear a0 a1 hfz HX02 HX12 HO2 HB2
  go_wp2_with (first | (refine wpList_load_row rfl 29 _ rfl w.heap.size rfl 29 #[.int .u64 (n : Int), .slice A2 k c2] (0, 0) _ HX03.out Try.underlying29 rfl (by kernel_rfl) ?_) | (refine wpList_store_row rfl 29 _ _ rfl g #[.int .u64 (n : Int), .slice A2 k c2] rfl rfl 29 #[.int .u64 0, .slice none 0 0] HX13.out (by kernel_rfl) rfl (by simp [Value.oneCell']) ?_))
  refine ret_two (g := g) rfl rfl (setRow_heap _ _ _ _ _ _ HX13.out) Try.underlying29 rfl (by kernel_rfl) rfl ?_
  rw [HSD.out]
  refine ⟨_, congrArg (fun b => Ending.returned (Value.tuple #[.agg #[.int .u64 (n : Int), .slice A2 k c2], .bool b])) (Bool.eq_iff_iff.2 (by simp <;> omega)), ⟨_, rfl, TlT.own (base := w1.heap.size) (k := 2) ?_⟩, below_setRow HB3.out (by have := HG.out; omega) _⟩
  rw [HKL.out]
  exact ownk_other HO3.out HX13.out (by decide) fun j hj => setRow_other _ _ _ _ hj
abbrev InT (w : World) (v : Value) (L : List Int) : Prop := TlT 3 inA w v L

set_option maxRecDepth 100000 in
set_option maxHeartbeats 16000000 in
theorem reftick_any (v : Value) (n : Nat) (S : List Tm) (w : World) (hv : WhT w v n S) (hl : S.length ≤ 1000) (hn : n < 9223372036854775807) :
    Calls Try.prog 14 #[v] w fun e w' => ∃ v' u', e = .returned (.tuple #[v', u']) ∧ WhT w' v' (n + 1) (S.filter (notDue (n + 1))) ∧ InT w' u' (dueX (n + 1) S) ∧ Below w.heap.size w w' := by
  obtain ⟨s, rfl, hs⟩ := hv
  have HS := Lib.hid hs
  obtain ⟨As, cs, rfl, -, -, hsn, hsc⟩ := hs
  have HLEN := Lib.hid hl
  obtain ⟨sn, hsl⟩ : ∃ sn, S.length = sn := ⟨_, rfl⟩
  have HSL := Lib.hid hsl
  rw [hsl] at HS hsn HLEN ⊢
  have hsc2 : cs ≤ 9223372036854775807 := by unfold maxLen at hsc; omega
  have hs1000 := HLEN.out
  clear hl hsl hsc
  obtain ⟨w1, hw1⟩ : ∃ w1, (w.alloc (.cells #[.int .u64 (n : Int), .slice As sn cs] 29)).alloc (.cells #[.int .u64 0, .slice none 0 0] 29) = w1 := ⟨_, rfl⟩
  have HB1 : Hid (Below w.heap.size w w1) := by rw [← hw1]; exact ((Below.refl _ _).alloc (Nat.le_refl _) _).alloc (by simp) _
  have HX0 : Hid (w1.heap[w.heap.size]? = some (.cells #[.int .u64 (n : Int), .slice As sn cs] 29 (0, 0))) := by rw [← hw1]; exact old_alloc (heap_alloc_new w _) _
  have HX1 : Hid (w1.heap[w.heap.size + 1]? = some (.cells #[.int .u64 0, .slice none 0 0] 29 (0, 0))) := by rw [← hw1]; exact new_at1 w _ _
  have HW := Lib.hid hw1
  have HS1 := Lib.hid (HS.out.below HB1.out)
  obtain ⟨g, hg⟩ : ∃ g, w.heap.size + 1 = g := ⟨_, rfl⟩
  rw [hg] at HX1
  have HG := Lib.hid hg
  have HNE : Hid (w.heap.size ≠ g) := by show _ ≠ _; omega
  clear hw1 hg
  obtain ⟨a0, a1⟩ := two_cells HX0.out
  have hfz := frozen_of_row w1 w.heap.size 0 _ _ HX0.out
  go_enter Try.func14, Try.ntmps14
  go_upto_region 1 with (fail)
  change Code.wp _ _ _ _ ((w.alloc (.cells #[.int .u64 (n : Int), .slice As sn cs] 29)).alloc (.cells #[.int .u64 0, .slice none 0 0] 29))
  rw [HW.out, HG.out]
  go_upto_region 2 with (fail)
  rw [row20 HX0.out]
  have HX02 : Hid ((w1.setRow w.heap.size #[.int .u64 ((n : Int) + 1), .slice As sn cs]).heap[w.heap.size]? = some (.cells #[.int .u64 ((n : Int) + 1), .slice As sn cs] 29 (0, 0))) := setRow_heap _ _ _ _ _ _ HX0.out
  have HX12 : Hid ((w1.setRow w.heap.size #[.int .u64 ((n : Int) + 1), .slice As sn cs]).heap[g]? = some (.cells #[.int .u64 0, .slice none 0 0] 29 (0, 0))) := (setRow_other _ _ _ _ (Ne.symm HNE.out)).trans HX1.out
  have HS2 : Hid (TsT (w1.setRow w.heap.size #[.int .u64 ((n : Int) + 1), .slice As sn cs]) (.slice As sn cs) S) := HS1.out.setRow HX0.out (by decide) _
  have HB2 := Lib.hid (below_setRow HB1.out (Nat.le_refl _) #[.int .u64 ((n : Int) + 1), .slice As sn cs])
  generalize w1.setRow w.heap.size #[.int .u64 ((n : Int) + 1), .slice As sn cs] = w2 at HX02 HX12 HS2 HB2 ⊢
  clear a0 a1 hfz HX0 HX1 HB1 HS1
  obtain ⟨As', cs', hsl', hts, -⟩ := HS2.out
  injection hsl' with q1 q2 q3
  subst q1 q3
  have HTS := Lib.hid hts.rd
  clear hts q2
  go_wp2
  go_loopw [4, 5, 6] (fun t4 t5 t6 wr => ∃ i m k : Nat, i ≤ sn ∧ m ≤ i ∧ k ≤ i ∧ t6 = .int .i64 (i : Int) ∧ Hid (((S.take i).filter (isDue (n + 1))).length = m) ∧ Hid (((S.take i).filter (notDue (n + 1))).length = k) ∧ Hid (wr.ownsRow w2.heap.size 3 1 t4 m (rowsOf inA (((S.take i).filter (isDue (n + 1))).map (·.id)))) ∧ Hid (wr.ownsRow w2.heap.size 53 2 t5 k (rowsOf tmA ((S.take i).filter (notDue (n + 1))))) ∧ Hid (Below w2.heap.size w2 wr)) (fun _ _ t6 _ => sn - (intOf t6).toNat)
  case atStart => exact ⟨0, 0, 0, Nat.zero_le _, Nat.le_refl _, Nat.le_refl _, rfl, Lib.hid rfl, Lib.hid rfl, Lib.hid (World.ownsRow_nil _ _ _ _), Lib.hid (World.ownsRow_nil _ _ _ _), Lib.hid (Below.refl _ _)⟩
  case round =>
    obtain ⟨i, m, k, hi, hm, hk, rfl, HM, HK, HOD, HOR, HBW⟩ := hrel
    generalize u4 = v4 at HOD ⊢
    generalize u5 = v5 at HOR ⊢
    have HXW := Lib.hid (old_below HX02.out HBW.out (row_lt HX02.out))
    obtain ⟨b0, b1⟩ := two_cells HXW.out
    by_cases hlt : i < sn
    · obtain ⟨x, hx⟩ : ∃ x, S[i]? = some x := ⟨_, List.getElem?_eq_getElem (by rw [HSL.out]; exact hlt)⟩
      obtain ⟨ad, rfl, hKA⟩ := el_all tmE HTS.out (by omega) hx
      have HKA := Lib.hid hKA
      have KA1 : Hid (∀ w', Reg wr w' → w'.cell? ((ad.add (i * 2)).add 1) = some (.int .u64 (x.due : Int))) := fun w' hr => HKA.out w' (HBW.out.trans ((reg_below hr).mono HBW.out.size)) 1 _ (tmA_due x)
      have KX0 : Hid (∀ w', Reg wr w' → w'.cell? (⟨w.heap.size, 0, none⟩ : Addr) = some (.int .u64 ((n : Int) + 1))) := fun w' hr => (two_cells (old_below HXW.out (reg_below hr) (row_lt HXW.out))).1
      have KX1 : Hid (∀ w', Reg wr w' → w'.cell? ((⟨w.heap.size, 0, none⟩ : Addr).add 1) = some (.slice (some ad) sn cs)) := fun w' hr => (two_cells (old_below HXW.out (reg_below hr) (row_lt HXW.out))).2
      have HF1 := Lib.hid (filter_snoc (p := isDue (n + 1)) hx)
      have HF2 := Lib.hid (filter_snoc (p := notDue (n + 1)) hx)
      have HSX : Hid ((tmA x).size = 2) := tmE.size x
      have HOX : Hid (∀ u ∈ (tmA x).toList, u.oneCell' = true) := el_ones tmE x
      have HRX : Hid (∀ L, rowsOf tmA (L ++ [x]) = rowsOf tmA L ++ (tmA x).toList) := fun L => by rw [rows_append, rows_one_el]
      have HRI : Hid (∀ (L : List Tm), rowsOf inA ((L ++ [x]).map (·.id)) = rowsOf inA (L.map (·.id)) ++ (#[.int .i64 x.id] : Array Value).toList) := fun L => by rw [List.map_append, rows_append, List.map_singleton, rows_one_el]; rfl
      have HPI : Hid (isDue (n + 1) x = decide (x.due = n + 1)) := rfl
      have HPN : Hid (notDue (n + 1) x = decide (x.due ≠ n + 1)) := rfl
      have HID0 : Hid (∀ w', Below w2.heap.size w2 w' → w'.cell? (ad.add (i * 2)) = some (.int .i64 x.id)) := fun w' hb => by
        have := HKA.out w' hb 0 _ (tmA_id x)
        rwa [add_twice, Nat.add_zero] at this
      obtain ⟨z, hz⟩ : ∃ z, x.due = z := ⟨_, rfl⟩
      rw [hz] at KA1 HPI HPN
      generalize x.id = y at HRI HID0
      obtain ⟨CX, hCX⟩ : ∃ CX, tmA x = CX := ⟨_, rfl⟩
      rw [hCX] at HKA HSX HOX HRX
      clear hx hKA hz hCX
      by_cases hz : z = n + 1
      · have HF1b : Hid ((S.take (i + 1)).filter (isDue (n + 1)) = (S.take i).filter (isDue (n + 1)) ++ [x]) := by
          show _ = _
          rw [HF1.out, HPI.out, decide_eq_true hz, if_pos rfl]
        have HF2b : Hid ((S.take (i + 1)).filter (notDue (n + 1)) = (S.take i).filter (notDue (n + 1))) := by
          show _ = _
          rw [HF2.out, HPN.out, decide_eq_false (by simp [hz])]
          simp
        have hzi : (z : Int) = (n : Int) + 1 := by omega
        rw [hzi] at KA1
        clear hzi hz
        go_upto_region 7 with (fail)
        clear b0 b1
        refine wp_region_quiet_below (by kernel_rfl) (by kernel_rfl) ?_
        (first | go_big_quiet_step (fail) | quiet_step (fail))
        (refine wpQuiet_step (fun K hK => ?_); refine quiet_load_cell (by kernel_rfl) 25 _ rfl ((⟨w.heap.size, 0, none⟩ : Addr).add 1) (by first | rfl | (simp [Act.eval, Addr.add_mid])) (.slice (some ad) sn cs) _ KX1.out Try.underlying25 rfl ?_; refine hK _ ?_; clear hK K; go_frame)
        (first | go_big_quiet_step (fail) | quiet_step (fail))
        (first | go_big_quiet_step (fail) | quiet_step (fail))
        (first | go_big_quiet_step (fail) | quiet_step (fail))
        (refine wpQuiet_step (fun K hK => ?_); refine quiet_load_cell (by kernel_rfl) 22 _ rfl ((ad.add (i * 2)).add 1) (by first | rfl | (simp [Act.eval, Addr.add_mid])) (.int .u64 ((n : Int) + 1)) _ KA1.out Try.underlying22 rfl ?_; refine hK _ ?_; clear hK K; go_frame)
        (first | go_big_quiet_step (fail) | quiet_step (fail))
        (refine wpQuiet_step (fun K hK => ?_); refine quiet_load_cell (by kernel_rfl) 22 _ rfl (⟨w.heap.size, 0, none⟩ : Addr) (by first | rfl | (simp [Act.eval, Addr.add_mid])) (.int .u64 ((n : Int) + 1)) _ KX0.out Try.underlying22 rfl ?_; refine hK _ ?_; clear hK K; go_frame)
        (first | go_big_quiet_step (fail) | quiet_step (fail))
        refine wpQuiet_nil ?_
        intro w9 hw9
        obtain ⟨⟨dq, osq⟩, rfl⟩ := hw9
        have HBA := Lib.hid ((HBW.out).trans ((below_regrown wr dq osq).mono (HBW.out).size))
        have HOD2 := Lib.hid (ownk_below HOD.out (below_regrown wr dq osq) (Nat.le_refl _))
        have HOR2 := Lib.hid (ownk_below HOR.out (below_regrown wr dq osq) (Nat.le_refl _))
        generalize Sort.grow (redrawn wr dq) osq = wa at *
        have HXA := Lib.hid (old_below HX02.out HBA.out (row_lt HX02.out))
        obtain ⟨b0, b1⟩ := two_cells HXA.out
        have hci := HID0.out wa HBA.out
        obtain ⟨i0, q0, q1, q2, q3⟩ := info_in1
        go_wp2_with (first | (done) | (done) | (at_builtin; refine wpList_append_elem rfl _ _ 43 rfl w2.heap.size 3 i0 _ 1 8 Try.underlying43 q0 q1 q2 q3 rfl (by decide) _ m _ rfl (ownk_below HOD2.out ((Below.refl _ _).alloc (Nat.le_refl _) _) (Nat.le_refl _)) _ 1 #[.int .i64 y] _ _ rfl (heap_alloc_new _ _) rfl (by intro u hu; simp at hu; subst hu; rfl) (by unfold maxLen; omega) (by omega) (by have := HBA.out.size; simp; omega) ?_; intro v8 w8 hown6 hgrow6 _; have HO8 := Lib.hid hown6; have HB8 : Hid (Below w2.heap.size w2 w8) := (HBA.out.alloc HBA.out.size _).grown hgrow6 (by have := HBA.out.size; simp; omega) fun g hg => (HOD2.out.lt g hg).1; have HR8 := Lib.hid (own_grown (ownk_below HOR2.out ((Below.refl _ _).alloc (Nat.le_refl _) _) (Nat.le_refl _)) hgrow6 (fun g C t fr he hg => by rw [ownk_type (ownk_below HOD2.out ((Below.refl _ _).alloc (Nat.le_refl _) _) (Nat.le_refl _)) he hg]; decide)); clear hown6 hgrow6))
        go_roundw
        case rel => exact ⟨i + 1, m + 1, k, by omega, by omega, by omega, by go_num, Lib.hid (by show List.length _ = _; rw [HF1b.out, List.length_append, HM.out]; rfl), by rw [HF2b.out]; exact HK, Lib.hid (by show World.ownsRow _ _ _ _ _ _ _; rw [HF1b.out, HRI.out]; exact HO8.out), Lib.hid (by show World.ownsRow _ _ _ _ _ _ _; rw [HF2b.out]; exact HR8.out), HB8⟩
        case measure => simp [intOf]; omega
      · have HF1b : Hid ((S.take (i + 1)).filter (isDue (n + 1)) = (S.take i).filter (isDue (n + 1))) := by
          show _ = _
          rw [HF1.out, HPI.out, decide_eq_false hz]
          simp
        have HF2b : Hid ((S.take (i + 1)).filter (notDue (n + 1)) = (S.take i).filter (notDue (n + 1)) ++ [x]) := by
          show _ = _
          rw [HF2.out, HPN.out, decide_eq_true hz, if_pos rfl]
        have hzi : ¬ (z : Int) = (n : Int) + 1 := by omega
        clear hz
        go_upto_region 7 with (fail)
        clear b0 b1
        refine wp_region_quiet_below (by kernel_rfl) (by kernel_rfl) ?_
        (first | go_big_quiet_step (fail) | quiet_step (fail))
        (refine wpQuiet_step (fun K hK => ?_); refine quiet_load_cell (by kernel_rfl) 25 _ rfl ((⟨w.heap.size, 0, none⟩ : Addr).add 1) (by first | rfl | (simp [Act.eval, Addr.add_mid])) (.slice (some ad) sn cs) _ KX1.out Try.underlying25 rfl ?_; refine hK _ ?_; clear hK K; go_frame)
        (first | go_big_quiet_step (fail) | quiet_step (fail))
        (first | go_big_quiet_step (fail) | quiet_step (fail))
        (first | go_big_quiet_step (fail) | quiet_step (fail))
        (refine wpQuiet_step (fun K hK => ?_); refine quiet_load_cell (by kernel_rfl) 22 _ rfl ((ad.add (i * 2)).add 1) (by first | rfl | (simp [Act.eval, Addr.add_mid])) (.int .u64 (z : Int)) _ KA1.out Try.underlying22 rfl ?_; refine hK _ ?_; clear hK K; go_frame)
        (first | go_big_quiet_step (fail) | quiet_step (fail))
        (refine wpQuiet_step (fun K hK => ?_); refine quiet_load_cell (by kernel_rfl) 22 _ rfl (⟨w.heap.size, 0, none⟩ : Addr) (by first | rfl | (simp [Act.eval, Addr.add_mid])) (.int .u64 ((n : Int) + 1)) _ KX0.out Try.underlying22 rfl ?_; refine hK _ ?_; clear hK K; go_frame)
        (first | go_big_quiet_step (fail) | quiet_step (fail))
        refine wpQuiet_nil ?_
        intro w9 hw9
        obtain ⟨⟨dq, osq⟩, rfl⟩ := hw9
        have HBA := Lib.hid ((HBW.out).trans ((below_regrown wr dq osq).mono (HBW.out).size))
        have HOD2 := Lib.hid (ownk_below HOD.out (below_regrown wr dq osq) (Nat.le_refl _))
        have HOR2 := Lib.hid (ownk_below HOR.out (below_regrown wr dq osq) (Nat.le_refl _))
        generalize Sort.grow (redrawn wr dq) osq = wa at *
        have HXA := Lib.hid (old_below HX02.out HBA.out (row_lt HX02.out))
        obtain ⟨b0, b1⟩ := two_cells HXA.out
        have HKC := Lib.hid (HKA.out wa HBA.out)
        obtain ⟨i0, q0, q1, q2, q3⟩ := info_tm2
        go_wp2_with (first | (refine wpList_load_atA rfl 53 _ rfl (ad.add (i * 2)) rfl CX _ HKC.out Try.underlying53 rfl (by rw [HSX.out]; kernel_rfl) ?_) | (refine wpList_build_one rfl 25 53 _ rfl CX rfl Try.underlying25 2 (by decide) (by decide) (by kernel_rfl) HSX.out ?_) | (at_builtin; refine wpList_append_elem rfl _ _ 25 rfl w2.heap.size 53 i0 _ 2 16 Try.underlying25 q0 q1 q2 q3 rfl (by decide) _ k _ rfl (ownk_below HOR2.out ((Below.refl _ _).alloc (Nat.le_refl _) _) (Nat.le_refl _)) _ 1 CX _ _ rfl (heap_alloc_new _ _) HSX.out HOX.out (by unfold maxLen; omega) (by omega) (by have := HBA.out.size; simp; omega) ?_; intro v8 w8 hown6 hgrow6 _; have HO8 := Lib.hid hown6; have HB8 : Hid (Below w2.heap.size w2 w8) := (HBA.out.alloc HBA.out.size _).grown hgrow6 (by have := HBA.out.size; simp; omega) fun g hg => (HOR2.out.lt g hg).1; have HR8 := Lib.hid (own_grown (ownk_below HOD2.out ((Below.refl _ _).alloc (Nat.le_refl _) _) (Nat.le_refl _)) hgrow6 (fun g C t fr he hg => by rw [ownk_type (ownk_below HOR2.out ((Below.refl _ _).alloc (Nat.le_refl _) _) (Nat.le_refl _)) he hg]; decide)); clear hown6 hgrow6))
        go_roundw
        case rel => exact ⟨i + 1, m, k + 1, by omega, by omega, by omega, by go_num, by rw [HF1b.out]; exact HM, Lib.hid (by show List.length _ = _; rw [HF2b.out, List.length_append, HK.out]; rfl), Lib.hid (by show World.ownsRow _ _ _ _ _ _ _; rw [HF1b.out]; exact HR8.out), Lib.hid (by show World.ownsRow _ _ _ _ _ _ _; rw [HF2b.out, HRX.out]; exact HO8.out), HB8⟩
        case measure => simp [intOf]; omega
    · obtain rfl : i = sn := by omega
      have HTK : Hid (S.take i = S) := List.take_of_length_le (Nat.le_of_eq HSL.out)
      rw [HTK.out] at HM HK HOD HOR
      obtain ⟨A5, c5, rfl, -⟩ := ownk_form HOR.out
      have hfz := frozen_of_row wr w.heap.size 1 _ _ HXW.out
      have HX1W := Lib.hid (old_below HX12.out HBW.out (row_lt HX12.out))
      have HBF := Lib.hid (HB2.out.trans (HBW.out.mono HB2.out.size))
      obtain ⟨A4, c4, rfl, -⟩ := ownk_form HOD.out
      go_upto_region 11 with (fail)
      rw [row2 HXW.out]
      have HXE : Hid ((wr.setRow w.heap.size #[.int .u64 ((n : Int) + 1), .slice A5 k c5]).heap[w.heap.size]? = some (.cells #[.int .u64 ((n : Int) + 1), .slice A5 k c5] 29 (0, 0))) := setRow_heap _ _ _ _ _ _ HXW.out
      have HXF : Hid ((wr.setRow w.heap.size #[.int .u64 ((n : Int) + 1), .slice A5 k c5]).heap[g]? = some (.cells #[.int .u64 0, .slice none 0 0] 29 (0, 0))) := (setRow_other _ _ _ _ (Ne.symm HNE.out)).trans HX1W.out
      have HOD3 : Hid ((wr.setRow w.heap.size #[.int .u64 ((n : Int) + 1), .slice A5 k c5]).ownsRow w2.heap.size 3 1 (.slice A4 m c4) m (rowsOf inA ((S.filter (isDue (n + 1))).map (·.id)))) := ownk_other HOD.out HXW.out (by decide) fun j hj => setRow_other _ _ _ _ hj
      have HOR3 : Hid ((wr.setRow w.heap.size #[.int .u64 ((n : Int) + 1), .slice A5 k c5]).ownsRow w2.heap.size 53 2 (.slice A5 k c5) k (rowsOf tmA (S.filter (notDue (n + 1))))) := ownk_other HOR.out HXW.out (by decide) fun j hj => setRow_other _ _ _ _ hj
      have HB3 := Lib.hid (below_setRow HBF.out (Nat.le_refl _) #[.int .u64 ((n : Int) + 1), .slice A5 k c5])
      generalize wr.setRow w.heap.size #[.int .u64 ((n : Int) + 1), .slice A5 k c5] = w3 at HXE HXF HOD3 HOR3 HB3 ⊢
      clear b0 b1 hfz HXW HX1W HOD HOR HBF
      go_wp2_with (first | (refine wpList_load_row rfl 29 _ rfl w.heap.size rfl 29 #[.int .u64 ((n : Int) + 1), .slice A5 k c5] (0, 0) _ HXE.out Try.underlying29 rfl (by kernel_rfl) ?_) | (refine wpList_store_row rfl 29 _ _ rfl g #[.int .u64 ((n : Int) + 1), .slice A5 k c5] rfl rfl 29 #[.int .u64 0, .slice none 0 0] HXF.out (by kernel_rfl) rfl (by simp [Value.oneCell']) ?_))
      refine ret_two (g := g) rfl rfl (setRow_heap _ _ _ _ _ _ HXF.out) Try.underlying29 rfl (by kernel_rfl) rfl ?_
      refine ⟨_, _, rfl, ⟨_, rfl, TlT.own (base := w2.heap.size) (k := 2) ?_⟩, TlT.own (base := w2.heap.size) (k := 1) ?_, below_setRow HB3.out (by have := HG.out; omega) _⟩
      · rw [HK.out]
        exact ownk_other HOR3.out HXF.out (by decide) fun j hj => setRow_other _ _ _ _ hj
      · unfold dueX
        rw [List.length_map, HM.out]
        exact ownk_other HOD3.out HXF.out (by decide) fun j hj => setRow_other _ _ _ _ hj
end Go.Proofs.Ytljochpomgjjeaa
