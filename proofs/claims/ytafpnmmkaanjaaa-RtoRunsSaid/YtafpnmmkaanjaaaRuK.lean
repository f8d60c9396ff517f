/-
  The law RtoRuns: every slice of times, every slice of truths.
-/
import Derived.Test.YtafpnmmkaanjaaaLiK
import Derived.Test.YtafpnmmkaanjaaaCm
namespace Go.Proofs.Ytafpnmmkaanjaaa
open Go.RowKit

set_option maxRecDepth 100000 in
set_option maxHeartbeats 16000000 in
theorem runs_any (v u : Value) (l : List Nat) (lo : List Bool) (w : World) (hv : SlT uA w v l) (hu : SlT bA w u lo) (hl : ∀ n ∈ l, n < 18446744073709551616) (hl2 : l.length ≤ 140737488351232) (hm2 : lo.length ≤ 140737488351232) :
    Calls Try.prog 4 #[v, u] w fun e w' => e = .returned (.bool true) ∧ Below w.heap.size w w' := by
  obtain ⟨A, c, rfl, htr, -, hnc, hcm⟩ := hv
  obtain ⟨B, d, rfl, htr2, -, hmd, hdm⟩ := hu
  obtain ⟨n, hnn⟩ : ∃ n, l.length = n := ⟨_, rfl⟩
  obtain ⟨m, hmm⟩ : ∃ m, lo.length = m := ⟨_, rfl⟩
  rw [hnn] at hl2 hnc ⊢
  rw [hmm] at hm2 hmd ⊢
  have HN := Lib.hid hnn
  have HM := Lib.hid hmm
  have hcm2 : c ≤ 9223372036854775807 := by unfold maxLen at hcm; omega
  have hdm2 : d ≤ 9223372036854775807 := by unfold maxLen at hdm; omega
  have HTR := Lib.hid htr
  have HTS := Lib.hid htr2
  have HL := Lib.hid hl
  have HNW : Hid (∀ w, Calls Try.prog 14 #[] w fun e w' => e = .returned (.agg #[.int .i64 (-1), .int .i64 (-1), .int .i64 10]) ∧ Below w.heap.size w w') := fun w => new_any w
  clear hnn hmm htr htr2 hcm hdm hl
  go_enter Try.func4, Try.ntmps4
  go_wp2_with fail
  refine (lives_any _).mono ?_
  rintro e w1 ⟨rfl, hb1⟩
  have HB1 := Lib.hid hb1
  clear hb1
  by_cases h200 : 200 < n
  · have h200b : (200 : Int) < (n : Int) := by omega
    go_wp2_with fail
    refine (lives_any _).mono ?_
    rintro e w2 ⟨rfl, hb2⟩
    have HB2 := Lib.hid (HB1.out.trans (hb2.mono HB1.out.size))
    clear hb2
    go_wp2
    go_ret
    exact ⟨rfl, HB2.out⟩
  have h200b : ¬ (200 : Int) < (n : Int) := by omega
  by_cases k200 : 200 < m
  · have k200b : (200 : Int) < (m : Int) := by omega
    go_wp2_with fail
    refine (lives_any _).mono ?_
    rintro e w2 ⟨rfl, hb2⟩
    have HB2 := Lib.hid (HB1.out.trans (hb2.mono HB1.out.size))
    clear hb2
    go_wp2
    go_ret
    exact ⟨rfl, HB2.out⟩
  have k200b : ¬ (200 : Int) < (m : Int) := by omega
  go_wp2_with fail
  refine (HNW.out _).mono ?_
  rintro e w2 ⟨rfl, hb2⟩
  have HB2 := Lib.hid (HB1.out.trans (hb2.mono HB1.out.size))
  clear hb2 HB1
  have HP1 : Hid (((w2.alloc (.cells #[.int .i64 0, .int .i64 0, .int .i64 0] 23)).alloc (.cells #[.int .i64 0, .int .i64 0, .int .i64 0] 23)).heap[w2.heap.size]? = some (.cells #[.int .i64 0, .int .i64 0, .int .i64 0] 23 (0, 0))) := old_alloc (heap_alloc_new w2 _) _
  have HP2 : Hid ((((w2.alloc (.cells #[.int .i64 0, .int .i64 0, .int .i64 0] 23)).alloc (.cells #[.int .i64 0, .int .i64 0, .int .i64 0] 23)).setRow w2.heap.size #[.int .i64 (-1), .int .i64 (-1), .int .i64 10]).heap[w2.heap.size + 1]? = some (.cells #[.int .i64 0, .int .i64 0, .int .i64 0] 23 (0, 0))) := (setRow_other _ _ _ _ (by omega)).trans (new_at1 w2 _ _)
  go_upto_region 4 with (first | (refine wpList_store_row rfl 23 _ _ rfl w2.heap.size #[.int .i64 (-1), .int .i64 (-1), .int .i64 10] rfl rfl 23 #[.int .i64 0, .int .i64 0, .int .i64 0] HP1.out (by kernel_rfl) rfl (by simp [Value.oneCell']) ?_) | (refine wpList_store_row rfl 23 _ _ rfl (w2.heap.size + 1) #[.int .i64 (-1), .int .i64 (-1), .int .i64 10] rfl rfl 23 #[.int .i64 0, .int .i64 0, .int .i64 0] HP2.out (by kernel_rfl) rfl (by simp [Value.oneCell']) ?_) | go_in)
  have HV1 : Hid (((((w2.alloc (.cells #[.int .i64 0, .int .i64 0, .int .i64 0] 23)).alloc (.cells #[.int .i64 0, .int .i64 0, .int .i64 0] 23)).setRow w2.heap.size #[.int .i64 (-1), .int .i64 (-1), .int .i64 10]).setRow (w2.heap.size + 1) #[.int .i64 (-1), .int .i64 (-1), .int .i64 10]).heap[w2.heap.size]? = some (.cells #[.int .i64 (-1), .int .i64 (-1), .int .i64 10] 23 (0, 0))) := (setRow_other _ _ _ _ (by omega)).trans (setRow_heap _ _ _ _ _ _ HP1.out)
  have HV2 : Hid (((((w2.alloc (.cells #[.int .i64 0, .int .i64 0, .int .i64 0] 23)).alloc (.cells #[.int .i64 0, .int .i64 0, .int .i64 0] 23)).setRow w2.heap.size #[.int .i64 (-1), .int .i64 (-1), .int .i64 10]).setRow (w2.heap.size + 1) #[.int .i64 (-1), .int .i64 (-1), .int .i64 10]).heap[w2.heap.size + 1]? = some (.cells #[.int .i64 (-1), .int .i64 (-1), .int .i64 10] 23 (0, 0))) := setRow_heap _ _ _ _ _ _ HP2.out
  have HB3 : Hid (Below w.heap.size w ((((w2.alloc (.cells #[.int .i64 0, .int .i64 0, .int .i64 0] 23)).alloc (.cells #[.int .i64 0, .int .i64 0, .int .i64 0] 23)).setRow w2.heap.size #[.int .i64 (-1), .int .i64 (-1), .int .i64 10]).setRow (w2.heap.size + 1) #[.int .i64 (-1), .int .i64 (-1), .int .i64 10])) := below_setRow (below_setRow ((HB2.out.alloc HB2.out.size _).alloc (by have := HB2.out.size; simp; omega) _) HB2.out.size _) (by have := HB2.out.size; omega) _
  generalize (((w2.alloc (.cells #[.int .i64 0, .int .i64 0, .int .i64 0] 23)).alloc (.cells #[.int .i64 0, .int .i64 0, .int .i64 0] 23)).setRow w2.heap.size #[.int .i64 (-1), .int .i64 (-1), .int .i64 10]).setRow (w2.heap.size + 1) #[.int .i64 (-1), .int .i64 (-1), .int .i64 10] = w3 at HV1 HV2 HB3 ⊢
  have hge1 := HB2.out.size
  obtain ⟨g1, hg1⟩ : ∃ g1, w2.heap.size = g1 := ⟨_, rfl⟩
  rw [hg1] at HV1 HV2 hge1 ⊢
  obtain ⟨g2, hg2⟩ : ∃ g2, g1 + 1 = g2 := ⟨_, rfl⟩
  rw [hg2] at HV2 ⊢
  have HNE : Hid (g1 ≠ g2) := by show _ ≠ _; omega
  have HGE : Hid (∀ k, k = g1 ∨ k = g2 → w.heap.size ≤ k) := fun k hk => by rcases hk with rfl | rfl <;> omega
  clear hg1 hg2 HP1 HP2 HB2 hge1 HNW
  go_wp2
  go_loopw [27] (fun t27 wr => ∃ (i : Nat) (c : Ck), i ≤ n ∧ t27 = .int .i64 (i : Int) ∧ Hid (rightX c = true) ∧ Hid (wr.heap[g1]? = some (.cells #[.int .i64 c.s, .int .i64 c.d, .int .i64 c.w] 23 (0, 0))) ∧ Hid (wr.heap[g2]? = some (.cells #[.int .i64 c.s, .int .i64 c.d, .int .i64 c.w] 23 (0, 0))) ∧ Hid (Below w.heap.size w wr)) (fun t27 _ => n - (intOf t27).toNat)
  case atStart => exact ⟨0, newX, Nat.zero_le _, rfl, Lib.hid new_right, HV1, HV2, HB3⟩
  case round =>
    clear HV1 HV2 HB3
    obtain ⟨i, k, hi, rfl, HK, HX1, HX2, HBW⟩ := hrel
    by_cases hlt : i < n
    · obtain ⟨x, hx⟩ : ∃ x, l[i]? = some x := ⟨_, List.getElem?_eq_getElem (by rw [HN.out]; exact hlt)⟩
      obtain ⟨ad, rfl, hKA⟩ := el_one1 uE (HTR.out.below HBW.out (Nat.le_refl _)) hx (v := .int .u64 (x : Int)) rfl
      have hcx := hKA wr (Below.refl _ _)
      have HXL := Lib.hid (HL.out x (List.mem_of_getElem? hx))
      clear hx hKA
      obtain ⟨b0, b1, b2⟩ := three_cells HX1.out
      by_cases him : i < m
      · have him2 : (i : Int) < (m : Int) := by omega
        obtain ⟨b, hb⟩ : ∃ b, lo[i]? = some b := ⟨_, List.getElem?_eq_getElem (by rw [HM.out]; exact him)⟩
        obtain ⟨bd, rfl, hKB⟩ := el_one1 bE (HTS.out.below HBW.out (Nat.le_refl _)) hb (v := .bool b) rfl
        have hcb := hKB wr (Below.refl _ _)
        clear hb hKB
        cases b
        · obtain ⟨k1, hk1⟩ : ∃ k1, measX k x = k1 := ⟨_, rfl⟩
          have HK1 : Hid (rightX k1 = true) := by rw [← hk1]; exact meas_right HK.out
          have HEQ : Hid (∀ w, (Op.equalIn 10000 23 (.agg #[.int .i64 k1.s, .int .i64 k1.d, .int .i64 k1.w]) (.agg #[.int .i64 k1.s, .int .i64 k1.d, .int .i64 k1.w])).run Try.prog w = .ok true w) := fun w => by
            have := eq_ck 9998 k1 k1 w
            rw [decide_eq_true rfl] at this
            exact this
          have HRI : Hid (∀ w, Calls Try.prog 8 #[.agg #[.int .i64 k1.s, .int .i64 k1.d, .int .i64 k1.w]] w fun e w' => e = .returned (.bool true) ∧ Below w.heap.size w w') := fun w => by
            have h1 := right_iff.1 HK1.out
            have := right_any k1 w (by unfold I64; omega) (by unfold I64; omega) (by unfold I64; omega)
            rw [HK1.out] at this
            exact this
          have HCA : Hid (∀ w, Calls Try.prog 10 #[.agg #[.int .i64 k.s, .int .i64 k.d, .int .i64 k.w], .int .u64 (x : Int)] w fun e w' => e = .returned (.agg #[.int .i64 k1.s, .int .i64 k1.d, .int .i64 k1.w]) ∧ Below w.heap.size w w') := fun w => by rw [← hk1]; exact meas_any k x w HK.out HXL.out
          have HCB : Hid (∀ w, Calls Try.prog 12 #[.agg #[.int .i64 k.s, .int .i64 k.d, .int .i64 k.w], .int .u64 (x : Int)] w fun e w' => e = .returned (.agg #[.int .i64 k1.s, .int .i64 k1.d, .int .i64 k1.w]) ∧ Below w.heap.size w w') := fun w => by rw [← hk1]; exact refmeas_any k x w HK.out HXL.out
          clear hk1
          go_upto_region 12 with (fail)
          clear b0 b1 b2 hcx hcb
          apply wp_region_relyG [6, 7] (OldT wr 6 g1 23 #[.int .i64 k.s, .int .i64 k.d, .int .i64 k.w] #[.int .i64 k1.s, .int .i64 k1.d, .int .i64 k1.w] 7 g2 23 #[.int .i64 k.s, .int .i64 k.d, .int .i64 k.w] #[.int .i64 k1.s, .int .i64 k1.d, .int .i64 k1.w]) (RL [Is (.agg #[.int .i64 k.s, .int .i64 k.d, .int .i64 k.w]), Is _, Is (.agg #[.int .i64 k1.s, .int .i64 k1.d, .int .i64 k1.w]), Is (.agg #[.int .i64 k.s, .int .i64 k.d, .int .i64 k.w]), Is _, Is (.agg #[.int .i64 k1.s, .int .i64 k1.d, .int .i64 k1.w]), Any, Any]) [false, false, false, false, false, false, false, false, false, false, false, false, false, false, false, false, false, false, false, false, false, false, false, false, false, false, false, false, false, false, false, false, false, false, false, false, false, false, false, false, false, false, false, false, false, false, false, false, false, false, false, false, true, true, true, true, true, true, false, false, false, false, false, false, false, false, false]
          · kernel_rfl
          · kernel_rfl
          · kernel_rfl
          · refine ⟨?_, ?_, ?_, ?_, ?_, ?_, ?_, ?_, trivial⟩
            · intro L ev w' hC hL hx K hK
              have e5 : ev (.tmp 5) = _ := hx.base 5 (by kernel_rfl)
              have HK := Lib.hid hK
              have HC := Lib.hid hC
              have HL := Lib.hid hL
              have HX := Lib.hid hx
              have hc := hx.cst
              skip
              clear hx hK hC hL
              have nst : L 6 = false := Bool.eq_false_iff.2 fun h => by have h9 := (HX.out.closed 2 _ 0 rfl (HX.out.closed 6 _ 2 rfl h (by kernel_rfl)) (by kernel_rfl)); rw [HL.out] at h9; cases h9
              have q1 : ev (.tmp 5) = .pointer (some ⟨g1, 0, none⟩) := e5
              have hld := run_loadVar_row (P := Try.prog) w' g1 23 23 #[.int .i64 k.s, .int .i64 k.d, .int .i64 k.w] (0, 0) _ (HC.out.old1 nst) Try.underlying23 rfl (by kernel_rfl)
              unfold Run
              rw [rely_load 23 _ rfl q1 hld]
              exact HK.out _ _ (.inl ⟨Below.refl _ _, by decide⟩) rfl
            · intro L ev w' hC hL hx K hK
              have e8 : ev (.tmp 8) = _ := hx.base 8 (by kernel_rfl)
              have HK := Lib.hid hK
              have HC := Lib.hid hC
              have HL := Lib.hid hL
              have HX := Lib.hid hx
              have hc := hx.cst
              skip
              clear hx hK hC hL
              unfold Run
              simp [execOp, Upon, go_sem, *]
              exact HK.out _ _ (.inl ⟨Below.refl _ _, by decide⟩) rfl
            · intro L ev w' hC hL hx K hK
              have e52 := hx.held 0 _ rfl (by kernel_rfl)
              have e53 := hx.held 1 _ rfl (by kernel_rfl)
              change ev (.tmp 52) = _ at e52
              change ev (.tmp 53) = _ at e53
              have HK := Lib.hid hK
              have HC := Lib.hid hC
              have HL := Lib.hid hL
              have HX := Lib.hid hx
              have hc := hx.cst
              have hf := hx.fn
              clear hx hK hC hL
              unfold Run
              simp [execOp, Upon, go_sem, *]
              refine (HCA.out w').mono ?_
              rintro e w2 ⟨rfl, hb⟩
              exact ⟨_, rfl, HK.out _ _ (.inl ⟨hb, by decide⟩) rfl⟩
            · intro L ev w' hC hL hx K hK
              have e6 : ev (.tmp 6) = _ := hx.base 6 (by kernel_rfl)
              have HK := Lib.hid hK
              have HC := Lib.hid hC
              have HL := Lib.hid hL
              have HX := Lib.hid hx
              have hc := hx.cst
              skip
              clear hx hK hC hL
              have nst : L 7 = false := Bool.eq_false_iff.2 fun h => by have h9 := (HX.out.closed 5 _ 3 rfl (HX.out.closed 7 _ 5 rfl h (by kernel_rfl)) (by kernel_rfl)); rw [HL.out] at h9; cases h9
              have q1 : ev (.tmp 6) = .pointer (some ⟨g2, 0, none⟩) := e6
              have hld := run_loadVar_row (P := Try.prog) w' g2 23 23 #[.int .i64 k.s, .int .i64 k.d, .int .i64 k.w] (0, 0) _ (HC.out.old2 nst) Try.underlying23 rfl (by kernel_rfl)
              unfold Run
              rw [rely_load 23 _ rfl q1 hld]
              exact HK.out _ _ (.inl ⟨Below.refl _ _, by decide⟩) rfl
            · intro L ev w' hC hL hx K hK
              have e8 : ev (.tmp 8) = _ := hx.base 8 (by kernel_rfl)
              have HK := Lib.hid hK
              have HC := Lib.hid hC
              have HL := Lib.hid hL
              have HX := Lib.hid hx
              have hc := hx.cst
              skip
              clear hx hK hC hL
              unfold Run
              simp [execOp, Upon, go_sem, *]
              exact HK.out _ _ (.inl ⟨Below.refl _ _, by decide⟩) rfl
            · intro L ev w' hC hL hx K hK
              have e55 := hx.held 3 _ rfl (by kernel_rfl)
              have e56 := hx.held 4 _ rfl (by kernel_rfl)
              change ev (.tmp 55) = _ at e55
              change ev (.tmp 56) = _ at e56
              have HK := Lib.hid hK
              have HC := Lib.hid hC
              have HL := Lib.hid hL
              have HX := Lib.hid hx
              have hc := hx.cst
              have hf := hx.fn
              clear hx hK hC hL
              unfold Run
              simp [execOp, Upon, go_sem, *]
              refine (HCB.out w').mono ?_
              rintro e w2 ⟨rfl, hb⟩
              exact ⟨_, rfl, HK.out _ _ (.inl ⟨hb, by decide⟩) rfl⟩
            · intro L ev w' hC hL hx K hK
              have e5 : ev (.tmp 5) = _ := hx.base 5 (by kernel_rfl)
              have e54 := hx.held 2 _ rfl (by kernel_rfl)
              change ev (.tmp 54) = _ at e54
              have HK := Lib.hid hK
              have HC := Lib.hid hC
              have HL := Lib.hid hL
              have HX := Lib.hid hx
              have hc := hx.cst
              skip
              clear hx hK hC hL
              have qv : ev (.tmp 54) = .agg #[.int .i64 k1.s, .int .i64 k1.d, .int .i64 k1.w] := e54
              have nst : L 6 = false := HL.out
              have qp : ev (.tmp 5) = .pointer (some ⟨g1, 0, none⟩) := e5
              have hgh := HC.out.old1 nst
              have hnv := HC.out.store1 nst rfl HNE.out (by decide)
              have hst := run_storeVar_row (P := Try.prog) w' g1 23 23 #[.int .i64 k.s, .int .i64 k.d, .int .i64 k.w] #[.int .i64 k1.s, .int .i64 k1.d, .int .i64 k1.w] hgh (by kernel_rfl) rfl (by simp [Value.oneCell'])
              unfold Run
              rw [rely_store 23 _ _ rfl qp qv hst]
              refine HK.out _ _ (.inr ⟨hnv, fun j hj hlj u hr => ?_⟩) trivial
              rcases j with _ | _ | _ | _ | _ | _ | _ | _ | j
              · exact hr
              · exact hr
              · exact hr
              · exact hr
              · exact hr
              · exact hr
              · exact absurd rfl hj
              · exact trivial
              · exact trivial
            · intro L ev w' hC hL hx K hK
              have e6 : ev (.tmp 6) = _ := hx.base 6 (by kernel_rfl)
              have e57 := hx.held 5 _ rfl (by kernel_rfl)
              change ev (.tmp 57) = _ at e57
              have HK := Lib.hid hK
              have HC := Lib.hid hC
              have HL := Lib.hid hL
              have HX := Lib.hid hx
              have hc := hx.cst
              skip
              clear hx hK hC hL
              have qv : ev (.tmp 57) = .agg #[.int .i64 k1.s, .int .i64 k1.d, .int .i64 k1.w] := e57
              have nst : L 7 = false := HL.out
              have qp : ev (.tmp 6) = .pointer (some ⟨g2, 0, none⟩) := e6
              have hgh := HC.out.old2 nst
              have hnv := HC.out.store2 nst rfl HNE.out (by decide)
              have hst := run_storeVar_row (P := Try.prog) w' g2 23 23 #[.int .i64 k.s, .int .i64 k.d, .int .i64 k.w] #[.int .i64 k1.s, .int .i64 k1.d, .int .i64 k1.w] hgh (by kernel_rfl) rfl (by simp [Value.oneCell'])
              unfold Run
              rw [rely_store 23 _ _ rfl qp qv hst]
              refine HK.out _ _ (.inr ⟨hnv, fun j hj hlj u hr => ?_⟩) trivial
              rcases j with _ | _ | _ | _ | _ | _ | _ | _ | j
              · exact hr
              · exact hr
              · exact hr
              · exact hr
              · exact hr
              · exact hr
              · exact trivial
              · exact absurd rfl hj
              · exact trivial
          · exact rl_mono ⟨is_mono _, is_mono _, is_mono _, is_mono _, is_mono _, is_mono _, any_mono, any_mono, trivial⟩
          · exact fun L L' w' h1 hg => hg.agree (h1 6 (by simp)) (h1 7 (by simp))
          · exact fun L w' w'' hb hg => hg.below hb
          · exact OldT.start HX1.out HX2.out
          · simp
          intro us wr hG hH
          obtain ⟨-, -, -, -, -, -, -, -, -⟩ := hH
          simp only [fillM]
          obtain ⟨hG9, hvn1, hvn2⟩ := hG
          have HVN1 : Hid (wr.heap[g1]? = some (.cells #[.int .i64 k1.s, .int .i64 k1.d, .int .i64 k1.w] 23 (0, 0))) := hvn1
          have HVN2 : Hid (wr.heap[g2]? = some (.cells #[.int .i64 k1.s, .int .i64 k1.d, .int .i64 k1.w] 23 (0, 0))) := hvn2
          have HG9 := Lib.hid hG9
          clear hG9 hvn1 hvn2
          generalize us 52 = v52
          generalize us 53 = v53
          generalize us 54 = v54
          generalize us 55 = v55
          generalize us 56 = v56
          generalize us 57 = v57
          have HBR := Lib.hid (HBW.out.trans (HG9.out.below HGE.out HBW.out.size))
          clear HX1 HX2 HG9
          obtain ⟨c1, c2, c3⟩ := three_cells HVN1.out
          obtain ⟨d1, d2, d3⟩ := three_cells HVN2.out
          have heq : ∀ w, (Op.equalIn 10000 23 (.agg #[.int .i64 k1.s, .int .i64 k1.d, .int .i64 k1.w]) (.agg #[.int .i64 k1.s, .int .i64 k1.d, .int .i64 k1.w])).run Try.prog w = .ok true w := fun w => HEQ.out w
          go_wp2_with fail
          refine (HRI.out _).mono ?_
          rintro e w8 ⟨rfl, hb8⟩
          have HY1 := Lib.hid (old_below HVN1.out hb8 (row_lt HVN1.out))
          have HY2 := Lib.hid (old_below HVN2.out hb8 (row_lt HVN2.out))
          have HB8 := Lib.hid (HBR.out.trans (hb8.mono HBR.out.size))
          clear c1 c2 c3 d1 d2 d3 hb8 heq
          go_wp2
          go_roundw
          case rel => exact ⟨i + 1, k1, by omega, by go_num, HK1, HY1, HY2, HB8⟩
          case measure => simp [intOf]; omega
        · obtain ⟨k1, hk1⟩ : ∃ k1, dblX k = k1 := ⟨_, rfl⟩
          have HK1 : Hid (rightX k1 = true) := by rw [← hk1]; exact dbl_right HK.out
          have HEQ : Hid (∀ w, (Op.equalIn 10000 23 (.agg #[.int .i64 k1.s, .int .i64 k1.d, .int .i64 k1.w]) (.agg #[.int .i64 k1.s, .int .i64 k1.d, .int .i64 k1.w])).run Try.prog w = .ok true w) := fun w => by
            have := eq_ck 9998 k1 k1 w
            rw [decide_eq_true rfl] at this
            exact this
          have HRI : Hid (∀ w, Calls Try.prog 8 #[.agg #[.int .i64 k1.s, .int .i64 k1.d, .int .i64 k1.w]] w fun e w' => e = .returned (.bool true) ∧ Below w.heap.size w w') := fun w => by
            have h1 := right_iff.1 HK1.out
            have := right_any k1 w (by unfold I64; omega) (by unfold I64; omega) (by unfold I64; omega)
            rw [HK1.out] at this
            exact this
          have HCA : Hid (∀ w, Calls Try.prog 11 #[.agg #[.int .i64 k.s, .int .i64 k.d, .int .i64 k.w]] w fun e w' => e = .returned (.agg #[.int .i64 k1.s, .int .i64 k1.d, .int .i64 k1.w]) ∧ Below w.heap.size w w') := fun w => by rw [← hk1]; exact dbl_any k w HK.out
          have HCB : Hid (∀ w, Calls Try.prog 13 #[.agg #[.int .i64 k.s, .int .i64 k.d, .int .i64 k.w]] w fun e w' => e = .returned (.agg #[.int .i64 k1.s, .int .i64 k1.d, .int .i64 k1.w]) ∧ Below w.heap.size w w') := fun w => by rw [← hk1]; exact refdbl_any k w HK.out
          have HWW : Hid (¬ k1.w < k.w) := by
            have h1 := right_iff.1 HK.out
            show ¬ _
            rw [← hk1]
            show ¬ boundX (k.w + k.w) < k.w
            rw [dbl_w h1.1]
            omega
          clear hk1
          go_upto_region 9 with (fail)
          clear b0 b1 b2 hcx hcb
          apply wp_region_relyG [4, 5] (OldT wr 4 g1 23 #[.int .i64 k.s, .int .i64 k.d, .int .i64 k.w] #[.int .i64 k1.s, .int .i64 k1.d, .int .i64 k1.w] 5 g2 23 #[.int .i64 k.s, .int .i64 k.d, .int .i64 k.w] #[.int .i64 k1.s, .int .i64 k1.d, .int .i64 k1.w]) (RL [Is (.agg #[.int .i64 k.s, .int .i64 k.d, .int .i64 k.w]), Is (.agg #[.int .i64 k1.s, .int .i64 k1.d, .int .i64 k1.w]), Is (.agg #[.int .i64 k.s, .int .i64 k.d, .int .i64 k.w]), Is (.agg #[.int .i64 k1.s, .int .i64 k1.d, .int .i64 k1.w]), Any, Any]) [false, false, false, false, false, false, false, false, false, false, false, false, false, false, false, false, false, false, false, false, false, false, false, false, false, false, false, false, false, false, false, false, false, false, false, false, false, false, false, false, false, false, false, false, true, true, true, true, false, false, false, false, false, false, false, false, false, false, false, false, false, false, false, false, false, false, false]
          · kernel_rfl
          · kernel_rfl
          · kernel_rfl
          · refine ⟨?_, ?_, ?_, ?_, ?_, ?_, trivial⟩
            · intro L ev w' hC hL hx K hK
              have e5 : ev (.tmp 5) = _ := hx.base 5 (by kernel_rfl)
              have HK := Lib.hid hK
              have HC := Lib.hid hC
              have HL := Lib.hid hL
              have HX := Lib.hid hx
              have hc := hx.cst
              skip
              clear hx hK hC hL
              have nst : L 4 = false := Bool.eq_false_iff.2 fun h => by have h9 := (HX.out.closed 1 _ 0 rfl (HX.out.closed 4 _ 1 rfl h (by kernel_rfl)) (by kernel_rfl)); rw [HL.out] at h9; cases h9
              have q1 : ev (.tmp 5) = .pointer (some ⟨g1, 0, none⟩) := e5
              have hld := run_loadVar_row (P := Try.prog) w' g1 23 23 #[.int .i64 k.s, .int .i64 k.d, .int .i64 k.w] (0, 0) _ (HC.out.old1 nst) Try.underlying23 rfl (by kernel_rfl)
              unfold Run
              rw [rely_load 23 _ rfl q1 hld]
              exact HK.out _ _ (.inl ⟨Below.refl _ _, by decide⟩) rfl
            · intro L ev w' hC hL hx K hK
              have e44 := hx.held 0 _ rfl (by kernel_rfl)
              change ev (.tmp 44) = _ at e44
              have HK := Lib.hid hK
              have HC := Lib.hid hC
              have HL := Lib.hid hL
              have HX := Lib.hid hx
              have hc := hx.cst
              have hf := hx.fn
              clear hx hK hC hL
              unfold Run
              simp [execOp, Upon, go_sem, *]
              refine (HCA.out w').mono ?_
              rintro e w2 ⟨rfl, hb⟩
              exact ⟨_, rfl, HK.out _ _ (.inl ⟨hb, by decide⟩) rfl⟩
            · intro L ev w' hC hL hx K hK
              have e6 : ev (.tmp 6) = _ := hx.base 6 (by kernel_rfl)
              have HK := Lib.hid hK
              have HC := Lib.hid hC
              have HL := Lib.hid hL
              have HX := Lib.hid hx
              have hc := hx.cst
              skip
              clear hx hK hC hL
              have nst : L 5 = false := Bool.eq_false_iff.2 fun h => by have h9 := (HX.out.closed 3 _ 2 rfl (HX.out.closed 5 _ 3 rfl h (by kernel_rfl)) (by kernel_rfl)); rw [HL.out] at h9; cases h9
              have q1 : ev (.tmp 6) = .pointer (some ⟨g2, 0, none⟩) := e6
              have hld := run_loadVar_row (P := Try.prog) w' g2 23 23 #[.int .i64 k.s, .int .i64 k.d, .int .i64 k.w] (0, 0) _ (HC.out.old2 nst) Try.underlying23 rfl (by kernel_rfl)
              unfold Run
              rw [rely_load 23 _ rfl q1 hld]
              exact HK.out _ _ (.inl ⟨Below.refl _ _, by decide⟩) rfl
            · intro L ev w' hC hL hx K hK
              have e46 := hx.held 2 _ rfl (by kernel_rfl)
              change ev (.tmp 46) = _ at e46
              have HK := Lib.hid hK
              have HC := Lib.hid hC
              have HL := Lib.hid hL
              have HX := Lib.hid hx
              have hc := hx.cst
              have hf := hx.fn
              clear hx hK hC hL
              unfold Run
              simp [execOp, Upon, go_sem, *]
              refine (HCB.out w').mono ?_
              rintro e w2 ⟨rfl, hb⟩
              exact ⟨_, rfl, HK.out _ _ (.inl ⟨hb, by decide⟩) rfl⟩
            · intro L ev w' hC hL hx K hK
              have e5 : ev (.tmp 5) = _ := hx.base 5 (by kernel_rfl)
              have e45 := hx.held 1 _ rfl (by kernel_rfl)
              change ev (.tmp 45) = _ at e45
              have HK := Lib.hid hK
              have HC := Lib.hid hC
              have HL := Lib.hid hL
              have HX := Lib.hid hx
              have hc := hx.cst
              skip
              clear hx hK hC hL
              have qv : ev (.tmp 45) = .agg #[.int .i64 k1.s, .int .i64 k1.d, .int .i64 k1.w] := e45
              have nst : L 4 = false := HL.out
              have qp : ev (.tmp 5) = .pointer (some ⟨g1, 0, none⟩) := e5
              have hgh := HC.out.old1 nst
              have hnv := HC.out.store1 nst rfl HNE.out (by decide)
              have hst := run_storeVar_row (P := Try.prog) w' g1 23 23 #[.int .i64 k.s, .int .i64 k.d, .int .i64 k.w] #[.int .i64 k1.s, .int .i64 k1.d, .int .i64 k1.w] hgh (by kernel_rfl) rfl (by simp [Value.oneCell'])
              unfold Run
              rw [rely_store 23 _ _ rfl qp qv hst]
              refine HK.out _ _ (.inr ⟨hnv, fun j hj hlj u hr => ?_⟩) trivial
              rcases j with _ | _ | _ | _ | _ | _ | j
              · exact hr
              · exact hr
              · exact hr
              · exact hr
              · exact absurd rfl hj
              · exact trivial
              · exact trivial
            · intro L ev w' hC hL hx K hK
              have e6 : ev (.tmp 6) = _ := hx.base 6 (by kernel_rfl)
              have e47 := hx.held 3 _ rfl (by kernel_rfl)
              change ev (.tmp 47) = _ at e47
              have HK := Lib.hid hK
              have HC := Lib.hid hC
              have HL := Lib.hid hL
              have HX := Lib.hid hx
              have hc := hx.cst
              skip
              clear hx hK hC hL
              have qv : ev (.tmp 47) = .agg #[.int .i64 k1.s, .int .i64 k1.d, .int .i64 k1.w] := e47
              have nst : L 5 = false := HL.out
              have qp : ev (.tmp 6) = .pointer (some ⟨g2, 0, none⟩) := e6
              have hgh := HC.out.old2 nst
              have hnv := HC.out.store2 nst rfl HNE.out (by decide)
              have hst := run_storeVar_row (P := Try.prog) w' g2 23 23 #[.int .i64 k.s, .int .i64 k.d, .int .i64 k.w] #[.int .i64 k1.s, .int .i64 k1.d, .int .i64 k1.w] hgh (by kernel_rfl) rfl (by simp [Value.oneCell'])
              unfold Run
              rw [rely_store 23 _ _ rfl qp qv hst]
              refine HK.out _ _ (.inr ⟨hnv, fun j hj hlj u hr => ?_⟩) trivial
              rcases j with _ | _ | _ | _ | _ | _ | j
              · exact hr
              · exact hr
              · exact hr
              · exact hr
              · exact trivial
              · exact absurd rfl hj
              · exact trivial
          · exact rl_mono ⟨is_mono _, is_mono _, is_mono _, is_mono _, any_mono, any_mono, trivial⟩
          · exact fun L L' w' h1 hg => hg.agree (h1 4 (by simp)) (h1 5 (by simp))
          · exact fun L w' w'' hb hg => hg.below hb
          · exact OldT.start HX1.out HX2.out
          · simp
          intro us wr hG hH
          obtain ⟨-, -, -, -, -, -, -⟩ := hH
          simp only [fillM]
          obtain ⟨hG9, hvn1, hvn2⟩ := hG
          have HVN1 : Hid (wr.heap[g1]? = some (.cells #[.int .i64 k1.s, .int .i64 k1.d, .int .i64 k1.w] 23 (0, 0))) := hvn1
          have HVN2 : Hid (wr.heap[g2]? = some (.cells #[.int .i64 k1.s, .int .i64 k1.d, .int .i64 k1.w] 23 (0, 0))) := hvn2
          have HG9 := Lib.hid hG9
          clear hG9 hvn1 hvn2
          generalize us 44 = v44
          generalize us 45 = v45
          generalize us 46 = v46
          generalize us 47 = v47
          have HBR := Lib.hid (HBW.out.trans (HG9.out.below HGE.out HBW.out.size))
          clear HX1 HX2 HG9
          obtain ⟨c1, c2, c3⟩ := three_cells HVN1.out
          obtain ⟨d1, d2, d3⟩ := three_cells HVN2.out
          have heq : ∀ w, (Op.equalIn 10000 23 (.agg #[.int .i64 k1.s, .int .i64 k1.d, .int .i64 k1.w]) (.agg #[.int .i64 k1.s, .int .i64 k1.d, .int .i64 k1.w])).run Try.prog w = .ok true w := fun w => HEQ.out w
          have hww := HWW.out
          go_wp2_with fail
          refine (HRI.out _).mono ?_
          rintro e w8 ⟨rfl, hb8⟩
          have HY1 := Lib.hid (old_below HVN1.out hb8 (row_lt HVN1.out))
          have HY2 := Lib.hid (old_below HVN2.out hb8 (row_lt HVN2.out))
          have HB8 := Lib.hid (HBR.out.trans (hb8.mono HBR.out.size))
          clear c1 c2 c3 d1 d2 d3 hb8 heq
          go_wp2
          go_roundw
          case rel => exact ⟨i + 1, k1, by omega, by go_num, HK1, HY1, HY2, HB8⟩
          case measure => simp [intOf]; omega
      · have him2 : ¬ (i : Int) < (m : Int) := by omega
        obtain ⟨k1, hk1⟩ : ∃ k1, measX k x = k1 := ⟨_, rfl⟩
        have HK1 : Hid (rightX k1 = true) := by rw [← hk1]; exact meas_right HK.out
        have HEQ : Hid (∀ w, (Op.equalIn 10000 23 (.agg #[.int .i64 k1.s, .int .i64 k1.d, .int .i64 k1.w]) (.agg #[.int .i64 k1.s, .int .i64 k1.d, .int .i64 k1.w])).run Try.prog w = .ok true w) := fun w => by
          have := eq_ck 9998 k1 k1 w
          rw [decide_eq_true rfl] at this
          exact this
        have HRI : Hid (∀ w, Calls Try.prog 8 #[.agg #[.int .i64 k1.s, .int .i64 k1.d, .int .i64 k1.w]] w fun e w' => e = .returned (.bool true) ∧ Below w.heap.size w w') := fun w => by
          have h1 := right_iff.1 HK1.out
          have := right_any k1 w (by unfold I64; omega) (by unfold I64; omega) (by unfold I64; omega)
          rw [HK1.out] at this
          exact this
        have HCA : Hid (∀ w, Calls Try.prog 10 #[.agg #[.int .i64 k.s, .int .i64 k.d, .int .i64 k.w], .int .u64 (x : Int)] w fun e w' => e = .returned (.agg #[.int .i64 k1.s, .int .i64 k1.d, .int .i64 k1.w]) ∧ Below w.heap.size w w') := fun w => by rw [← hk1]; exact meas_any k x w HK.out HXL.out
        have HCB : Hid (∀ w, Calls Try.prog 12 #[.agg #[.int .i64 k.s, .int .i64 k.d, .int .i64 k.w], .int .u64 (x : Int)] w fun e w' => e = .returned (.agg #[.int .i64 k1.s, .int .i64 k1.d, .int .i64 k1.w]) ∧ Below w.heap.size w w') := fun w => by rw [← hk1]; exact refmeas_any k x w HK.out HXL.out
        clear hk1
        go_upto_region 12 with (fail)
        clear b0 b1 b2 hcx
        apply wp_region_relyG [6, 7] (OldT wr 6 g1 23 #[.int .i64 k.s, .int .i64 k.d, .int .i64 k.w] #[.int .i64 k1.s, .int .i64 k1.d, .int .i64 k1.w] 7 g2 23 #[.int .i64 k.s, .int .i64 k.d, .int .i64 k.w] #[.int .i64 k1.s, .int .i64 k1.d, .int .i64 k1.w]) (RL [Is (.agg #[.int .i64 k.s, .int .i64 k.d, .int .i64 k.w]), Is _, Is (.agg #[.int .i64 k1.s, .int .i64 k1.d, .int .i64 k1.w]), Is (.agg #[.int .i64 k.s, .int .i64 k.d, .int .i64 k.w]), Is _, Is (.agg #[.int .i64 k1.s, .int .i64 k1.d, .int .i64 k1.w]), Any, Any]) [false, false, false, false, false, false, false, false, false, false, false, false, false, false, false, false, false, false, false, false, false, false, false, false, false, false, false, false, false, false, false, false, false, false, false, false, false, false, false, false, false, false, false, false, false, false, false, false, false, false, false, false, true, true, true, true, true, true, false, false, false, false, false, false, false, false, false]
        · kernel_rfl
        · kernel_rfl
        · kernel_rfl
        · refine ⟨?_, ?_, ?_, ?_, ?_, ?_, ?_, ?_, trivial⟩
          · intro L ev w' hC hL hx K hK
            have e5 : ev (.tmp 5) = _ := hx.base 5 (by kernel_rfl)
            have HK := Lib.hid hK
            have HC := Lib.hid hC
            have HL := Lib.hid hL
            have HX := Lib.hid hx
            have hc := hx.cst
            skip
            clear hx hK hC hL
            have nst : L 6 = false := Bool.eq_false_iff.2 fun h => by have h9 := (HX.out.closed 2 _ 0 rfl (HX.out.closed 6 _ 2 rfl h (by kernel_rfl)) (by kernel_rfl)); rw [HL.out] at h9; cases h9
            have q1 : ev (.tmp 5) = .pointer (some ⟨g1, 0, none⟩) := e5
            have hld := run_loadVar_row (P := Try.prog) w' g1 23 23 #[.int .i64 k.s, .int .i64 k.d, .int .i64 k.w] (0, 0) _ (HC.out.old1 nst) Try.underlying23 rfl (by kernel_rfl)
            unfold Run
            rw [rely_load 23 _ rfl q1 hld]
            exact HK.out _ _ (.inl ⟨Below.refl _ _, by decide⟩) rfl
          · intro L ev w' hC hL hx K hK
            have e8 : ev (.tmp 8) = _ := hx.base 8 (by kernel_rfl)
            have HK := Lib.hid hK
            have HC := Lib.hid hC
            have HL := Lib.hid hL
            have HX := Lib.hid hx
            have hc := hx.cst
            skip
            clear hx hK hC hL
            unfold Run
            simp [execOp, Upon, go_sem, *]
            exact HK.out _ _ (.inl ⟨Below.refl _ _, by decide⟩) rfl
          · intro L ev w' hC hL hx K hK
            have e52 := hx.held 0 _ rfl (by kernel_rfl)
            have e53 := hx.held 1 _ rfl (by kernel_rfl)
            change ev (.tmp 52) = _ at e52
            change ev (.tmp 53) = _ at e53
            have HK := Lib.hid hK
            have HC := Lib.hid hC
            have HL := Lib.hid hL
            have HX := Lib.hid hx
            have hc := hx.cst
            have hf := hx.fn
            clear hx hK hC hL
            unfold Run
            simp [execOp, Upon, go_sem, *]
            refine (HCA.out w').mono ?_
            rintro e w2 ⟨rfl, hb⟩
            exact ⟨_, rfl, HK.out _ _ (.inl ⟨hb, by decide⟩) rfl⟩
          · intro L ev w' hC hL hx K hK
            have e6 : ev (.tmp 6) = _ := hx.base 6 (by kernel_rfl)
            have HK := Lib.hid hK
            have HC := Lib.hid hC
            have HL := Lib.hid hL
            have HX := Lib.hid hx
            have hc := hx.cst
            skip
            clear hx hK hC hL
            have nst : L 7 = false := Bool.eq_false_iff.2 fun h => by have h9 := (HX.out.closed 5 _ 3 rfl (HX.out.closed 7 _ 5 rfl h (by kernel_rfl)) (by kernel_rfl)); rw [HL.out] at h9; cases h9
            have q1 : ev (.tmp 6) = .pointer (some ⟨g2, 0, none⟩) := e6
            have hld := run_loadVar_row (P := Try.prog) w' g2 23 23 #[.int .i64 k.s, .int .i64 k.d, .int .i64 k.w] (0, 0) _ (HC.out.old2 nst) Try.underlying23 rfl (by kernel_rfl)
            unfold Run
            rw [rely_load 23 _ rfl q1 hld]
            exact HK.out _ _ (.inl ⟨Below.refl _ _, by decide⟩) rfl
          · intro L ev w' hC hL hx K hK
            have e8 : ev (.tmp 8) = _ := hx.base 8 (by kernel_rfl)
            have HK := Lib.hid hK
            have HC := Lib.hid hC
            have HL := Lib.hid hL
            have HX := Lib.hid hx
            have hc := hx.cst
            skip
            clear hx hK hC hL
            unfold Run
            simp [execOp, Upon, go_sem, *]
            exact HK.out _ _ (.inl ⟨Below.refl _ _, by decide⟩) rfl
          · intro L ev w' hC hL hx K hK
            have e55 := hx.held 3 _ rfl (by kernel_rfl)
            have e56 := hx.held 4 _ rfl (by kernel_rfl)
            change ev (.tmp 55) = _ at e55
            change ev (.tmp 56) = _ at e56
            have HK := Lib.hid hK
            have HC := Lib.hid hC
            have HL := Lib.hid hL
            have HX := Lib.hid hx
            have hc := hx.cst
            have hf := hx.fn
            clear hx hK hC hL
            unfold Run
            simp [execOp, Upon, go_sem, *]
            refine (HCB.out w').mono ?_
            rintro e w2 ⟨rfl, hb⟩
            exact ⟨_, rfl, HK.out _ _ (.inl ⟨hb, by decide⟩) rfl⟩
          · intro L ev w' hC hL hx K hK
            have e5 : ev (.tmp 5) = _ := hx.base 5 (by kernel_rfl)
            have e54 := hx.held 2 _ rfl (by kernel_rfl)
            change ev (.tmp 54) = _ at e54
            have HK := Lib.hid hK
            have HC := Lib.hid hC
            have HL := Lib.hid hL
            have HX := Lib.hid hx
            have hc := hx.cst
            skip
            clear hx hK hC hL
            have qv : ev (.tmp 54) = .agg #[.int .i64 k1.s, .int .i64 k1.d, .int .i64 k1.w] := e54
            have nst : L 6 = false := HL.out
            have qp : ev (.tmp 5) = .pointer (some ⟨g1, 0, none⟩) := e5
            have hgh := HC.out.old1 nst
            have hnv := HC.out.store1 nst rfl HNE.out (by decide)
            have hst := run_storeVar_row (P := Try.prog) w' g1 23 23 #[.int .i64 k.s, .int .i64 k.d, .int .i64 k.w] #[.int .i64 k1.s, .int .i64 k1.d, .int .i64 k1.w] hgh (by kernel_rfl) rfl (by simp [Value.oneCell'])
            unfold Run
            rw [rely_store 23 _ _ rfl qp qv hst]
            refine HK.out _ _ (.inr ⟨hnv, fun j hj hlj u hr => ?_⟩) trivial
            rcases j with _ | _ | _ | _ | _ | _ | _ | _ | j
            · exact hr
            · exact hr
            · exact hr
            · exact hr
            · exact hr
            · exact hr
            · exact absurd rfl hj
            · exact trivial
            · exact trivial
          · intro L ev w' hC hL hx K hK
            have e6 : ev (.tmp 6) = _ := hx.base 6 (by kernel_rfl)
            have e57 := hx.held 5 _ rfl (by kernel_rfl)
            change ev (.tmp 57) = _ at e57
            have HK := Lib.hid hK
            have HC := Lib.hid hC
            have HL := Lib.hid hL
            have HX := Lib.hid hx
            have hc := hx.cst
            skip
            clear hx hK hC hL
            have qv : ev (.tmp 57) = .agg #[.int .i64 k1.s, .int .i64 k1.d, .int .i64 k1.w] := e57
            have nst : L 7 = false := HL.out
            have qp : ev (.tmp 6) = .pointer (some ⟨g2, 0, none⟩) := e6
            have hgh := HC.out.old2 nst
            have hnv := HC.out.store2 nst rfl HNE.out (by decide)
            have hst := run_storeVar_row (P := Try.prog) w' g2 23 23 #[.int .i64 k.s, .int .i64 k.d, .int .i64 k.w] #[.int .i64 k1.s, .int .i64 k1.d, .int .i64 k1.w] hgh (by kernel_rfl) rfl (by simp [Value.oneCell'])
            unfold Run
            rw [rely_store 23 _ _ rfl qp qv hst]
            refine HK.out _ _ (.inr ⟨hnv, fun j hj hlj u hr => ?_⟩) trivial
            rcases j with _ | _ | _ | _ | _ | _ | _ | _ | j
            · exact hr
            · exact hr
            · exact hr
            · exact hr
            · exact hr
            · exact hr
            · exact trivial
            · exact absurd rfl hj
            · exact trivial
        · exact rl_mono ⟨is_mono _, is_mono _, is_mono _, is_mono _, is_mono _, is_mono _, any_mono, any_mono, trivial⟩
        · exact fun L L' w' h1 hg => hg.agree (h1 6 (by simp)) (h1 7 (by simp))
        · exact fun L w' w'' hb hg => hg.below hb
        · exact OldT.start HX1.out HX2.out
        · simp
        intro us wr hG hH
        obtain ⟨-, -, -, -, -, -, -, -, -⟩ := hH
        simp only [fillM]
        obtain ⟨hG9, hvn1, hvn2⟩ := hG
        have HVN1 : Hid (wr.heap[g1]? = some (.cells #[.int .i64 k1.s, .int .i64 k1.d, .int .i64 k1.w] 23 (0, 0))) := hvn1
        have HVN2 : Hid (wr.heap[g2]? = some (.cells #[.int .i64 k1.s, .int .i64 k1.d, .int .i64 k1.w] 23 (0, 0))) := hvn2
        have HG9 := Lib.hid hG9
        clear hG9 hvn1 hvn2
        generalize us 52 = v52
        generalize us 53 = v53
        generalize us 54 = v54
        generalize us 55 = v55
        generalize us 56 = v56
        generalize us 57 = v57
        have HBR := Lib.hid (HBW.out.trans (HG9.out.below HGE.out HBW.out.size))
        clear HX1 HX2 HG9
        obtain ⟨c1, c2, c3⟩ := three_cells HVN1.out
        obtain ⟨d1, d2, d3⟩ := three_cells HVN2.out
        have heq : ∀ w, (Op.equalIn 10000 23 (.agg #[.int .i64 k1.s, .int .i64 k1.d, .int .i64 k1.w]) (.agg #[.int .i64 k1.s, .int .i64 k1.d, .int .i64 k1.w])).run Try.prog w = .ok true w := fun w => HEQ.out w
        go_wp2_with fail
        refine (HRI.out _).mono ?_
        rintro e w8 ⟨rfl, hb8⟩
        have HY1 := Lib.hid (old_below HVN1.out hb8 (row_lt HVN1.out))
        have HY2 := Lib.hid (old_below HVN2.out hb8 (row_lt HVN2.out))
        have HB8 := Lib.hid (HBR.out.trans (hb8.mono HBR.out.size))
        clear c1 c2 c3 d1 d2 d3 hb8 heq
        go_wp2
        go_roundw
        case rel => exact ⟨i + 1, k1, by omega, by go_num, HK1, HY1, HY2, HB8⟩
        case measure => simp [intOf]; omega
    · obtain rfl : i = n := by omega
      go_wp2
      go_ret
      exact ⟨rfl, HBW.out⟩
end Go.Proofs.Ytafpnmmkaanjaaa
