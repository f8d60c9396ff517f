/-
  The chapter's example. No condition.
-/
import Derived.Test.YtecbelnmdimnkaaStB
namespace Go.Proofs.Ytecbelnmdimnkaa
open Go.RowKit

def m21 : Mac := ⟨2, 1, 0, 0, 0, 0⟩
def m22 : Mac := ⟨2, 2, 0, 0, 0, 0⟩
set_option maxRecDepth 100000 in
set_option maxHeartbeats 8000000 in
theorem lives_any (w : World) : Calls Try.prog 6 #[] w fun e w' => e = .returned (.bool true) ∧ Below w.heap.size w w' := by
  obtain ⟨w1, hw1⟩ : ∃ w1, (w.alloc (.cells (macA m21) 46)).alloc (.cells (macA m22) 46) = w1 := ⟨_, rfl⟩
  have HB1 : Hid (Below w.heap.size w w1) := by rw [← hw1]; exact ((Below.refl _ _).alloc (Nat.le_refl _) _).alloc (by simp) _
  have hx1 : w1.heap[w.heap.size]? = some (.cells (macA m21) 46 (0, 0)) := by rw [← hw1]; exact old_alloc (heap_alloc_new w _) _
  have hy1 : w1.heap[w.heap.size + 1]? = some (.cells (macA m22) 46 (0, 0)) := by rw [← hw1]; exact new_at1 w _ _
  have HW := Lib.hid hw1
  obtain ⟨P, hP⟩ : ∃ P, P = 3 := ⟨_, rfl⟩
  have HNEW : Hid (Calls Try.prog 8 #[.int .i64 3] w1 fun e w' => e = .returned (.tuple #[.agg #[.int .i64 (P : Int), .slice none 0 0], .int .i64 0]) ∧ Below w1.heap.size w1 w') := by rw [hP]; exact new_ok 3 w1 (by decide) (by decide)
  have HPP : Hid (P ≤ 8) := by show P ≤ 8; omega
  have HF1 : Hid (fwX P [] 0 (frB m22 m21) = ([⟨m21, 0⟩], [1, 2], 0)) := by show _ = _; rw [hP]; decide +kernel
  have HF2 : Hid (fwX P [⟨m21, 0⟩] 2 (frB m21 m22) = ([⟨m21, 0⟩, ⟨m22, 2⟩], [0], 0)) := by show _ = _; rw [hP]; decide +kernel
  have HF3 : Hid (fwX P [⟨m21, 0⟩, ⟨m22, 2⟩] 0 (frB m22 m21) = ([⟨m22, 2⟩, ⟨m21, 0⟩], [2], 0)) := by show _ = _; rw [hP]; decide +kernel
  have HL0 : Hid (([] : List Ln).length ≤ 16) := by show _ ≤ _; decide
  have HL1 : Hid (([⟨m21, 0⟩] : List Ln).length ≤ 16) := by show _ ≤ _; decide
  have HL2 : Hid (([⟨m21, 0⟩, ⟨m22, 2⟩] : List Ln).length ≤ 16) := by show _ ≤ _; decide
  clear hw1 hP
  go_enter Try.func6, Try.ntmps6
  go_upto_region 2 with (fail)
  change Code.wp _ _ _ _ ((w.alloc (.cells (macA m21) 46)).alloc (.cells (macA m22) 46))
  rw [HW.out]
  clear HW
  generalize w.heap.size + 1 = bc at hy1 ⊢
  obtain ⟨W, hWW⟩ : ∃ W, w.heap.size = W := ⟨_, rfl⟩
  have HWE := Lib.hid hWW
  rw [hWW] at hx1 HB1 ⊢
  have HLW : Hid (W ≤ w1.heap.size) := by rw [← hWW]; exact HB1.out.size
  clear hWW
  have HX1 := Lib.hid hx1
  have HY1 := Lib.hid hy1
  clear hx1 hy1
  go_wp2_with fail
  refine HNEW.out.mono ?_
  rintro e w2 ⟨rfl, hb⟩
  have HB2 : Hid (Below W w (w2.alloc (.cells #[.int .i64 (P : Int), .slice none 0 0] 27))) := (HB1.out.trans (hb.mono HLW.out)).alloc (Nat.le_trans HLW.out hb.size) _
  have HN : Hid ((w2.alloc (.cells #[.int .i64 (P : Int), .slice none 0 0] 27)).heap[w2.heap.size]? = some (.cells #[.int .i64 (P : Int), .slice none 0 0] 27 (0, 0))) := heap_alloc_new w2 _
  have HXA := Lib.hid (old_alloc (old_below HX1.out hb (row_lt HX1.out)) (.cells #[.int .i64 (P : Int), .slice none 0 0] 27))
  have HYA := Lib.hid (old_alloc (old_below HY1.out hb (row_lt HY1.out)) (.cells #[.int .i64 (P : Int), .slice none 0 0] 27))
  have HLN : Hid (W ≤ w2.heap.size) := Nat.le_trans HLW.out hb.size
  clear hb HX1 HY1 HB1 HNEW HLW
  go_upto_region 3 with (refine wpList_store_new rfl 27 _ _ rfl w2 B2 #[.int .i64 (P : Int), .slice none 0 0] rfl rfl (by kernel_rfl) rfl (B2_ones _ _ _ _) ?_)
  generalize w2.alloc (.cells #[.int .i64 (P : Int), .slice none 0 0] 27) = wa at HB2 HN HXA HYA ⊢
  generalize w2.heap.size = N at HN HLN ⊢
  have HKS : Hid (KsT wa (.slice none 0 0) []) := KsT.nil
  have HXAn : Hid (¬ W = N) := ne_mac HXA.out HN.out
  have HYAn : Hid (¬ bc = N) := ne_mac HYA.out HN.out
  have HLA : Hid (W ≤ wa.heap.size) := Nat.le_of_lt (row_lt HXA.out)
  apply wp_region_relyG [9] (OldV wa N 9 #[.int .i64 (P : Int), .slice none 0 0] P [⟨m21, 0⟩]) (RL [Is (.agg #[.int .i64 (P : Int), .slice none 0 0]), Is (.agg (macA m22)), Is (.agg (macA m21)), OwnL wa.heap.size 14 (frB m22 m21), FwV P [⟨m21, 0⟩] [1, 2] 0, FwV P [⟨m21, 0⟩] [1, 2] 0, BrV P [⟨m21, 0⟩], IsV [1, 2], Is (.int .i64 0), Any, IsV [1, 2], Is (.int .i64 0)]) [false, false, false, false, false, true, true, false, false, false, false, false, false, false, false, false, false, false, true, true, true, true, true, true, true, true, true, false, false, false, false, false, false, false, false, false, false, false, false, false, false, false, false, false, false, false, false, false, false, false, false, false, false, false, false, false, false, false, false, false, false, false, false, false, false, false, false, false, false, false, false, false, false, false, false, false, false, false, false, false, false, false, false, false, false, false]
  · kernel_rfl
  · kernel_rfl
  · kernel_rfl
  · refine ⟨?_, ?_, ?_, ?_, ?_, ?_, ?_, ?_, ?_, ?_, ?_, ?_, trivial⟩
    · intro L ev w' hC hL hx K hK
      have e3 : ev (.tmp 3) = _ := hx.base 3 (by kernel_rfl)
      have HK := Lib.hid hK
      have HC := Lib.hid hC
      have HL := Lib.hid hL
      have HX := Lib.hid hx
      have hc := hx.cst
      skip
      clear hx hK hC hL
      have nst : L 9 = false := Bool.eq_false_iff.2 fun h => by have h9 := (HX.out.closed 4 _ 0 rfl (HX.out.closed 5 _ 4 rfl (HX.out.closed 6 _ 5 rfl (HX.out.closed 9 _ 6 rfl h (by kernel_rfl)) (by kernel_rfl)) (by kernel_rfl)) (by kernel_rfl)); rw [HL.out] at h9; cases h9
      have q1 : ev (.tmp 3) = .pointer (some ⟨N, 0, none⟩) := e3
      have hld := run_loadVar_row (P := Try.prog) w' N 27 27 #[.int .i64 (P : Int), .slice none 0 0] (0, 0) _ (HC.out.2.1 nst) Try.underlying27 rfl (by kernel_rfl)
      unfold Run
      rw [rely_load 27 _ rfl q1 hld]
      exact HK.out _ _ (.inl ⟨Below.refl _ _, by decide⟩) rfl
    · intro L ev w' hC hL hx K hK
      have e2 : ev (.tmp 2) = _ := hx.base 2 (by kernel_rfl)
      have HK := Lib.hid hK
      have HC := Lib.hid hC
      have HL := Lib.hid hL
      have HX := Lib.hid hx
      have hc := hx.cst
      skip
      clear hx hK hC hL
      have q1 : ev (.tmp 2) = .pointer (some ⟨bc, 0, none⟩) := e2
      have hld := run_loadVar_row (P := Try.prog) w' bc 46 46 (macA m22) (0, 0) _ ((HC.out.1.block bc (row_lt HYA.out) HYAn.out).trans HYA.out) Try.underlying46 rfl (by kernel_rfl)
      unfold Run
      rw [rely_load 46 _ rfl q1 hld]
      exact HK.out _ _ (.inl ⟨Below.refl _ _, by decide⟩) rfl
    · intro L ev w' hC hL hx K hK
      have e1 : ev (.tmp 1) = _ := hx.base 1 (by kernel_rfl)
      have HK := Lib.hid hK
      have HC := Lib.hid hC
      have HL := Lib.hid hL
      have HX := Lib.hid hx
      have hc := hx.cst
      skip
      clear hx hK hC hL
      have q1 : ev (.tmp 1) = .pointer (some ⟨W, 0, none⟩) := e1
      have hld := run_loadVar_row (P := Try.prog) w' W 46 46 (macA m21) (0, 0) _ ((HC.out.1.block W (row_lt HXA.out) HXAn.out).trans HXA.out) Try.underlying46 rfl (by kernel_rfl)
      unfold Run
      rw [rely_load 46 _ rfl q1 hld]
      exact HK.out _ _ (.inl ⟨Below.refl _ _, by decide⟩) rfl
    · intro L ev w' hC hL hx K hK
      have e20 := hx.held 1 _ rfl (by kernel_rfl)
      have e21 := hx.held 2 _ rfl (by kernel_rfl)
      change ev (.tmp 20) = _ at e20
      change ev (.tmp 21) = _ at e21
      have HK := Lib.hid hK
      have HC := Lib.hid hC
      have HL := Lib.hid hL
      have HX := Lib.hid hx
      have hc := hx.cst
      have hf := hx.fn
      clear hx hK hC hL
      have qa : ev (.tmp 20) = .agg (macA m22) := e20
      have qb : ev (.tmp 21) = .agg (macA m21) := e21
      unfold Run
      simp [execOp, Upon, go_sem, *]
      refine (frame_any m22 m21 w').mono ?_
      rintro e w2 ⟨A2, c2, rfl, ho, hb⟩
      exact ⟨_, rfl, HK.out _ _ (.inl ⟨hb, by decide⟩) (ownL_of (own_base ho HC.out.1.size) (by decide))⟩
    · intro L ev w' hC hL hx K hK
      have e19 := hx.held 0 _ rfl (by kernel_rfl)
      have e22 := hx.held 3 _ rfl (by kernel_rfl)
      change ev (.tmp 19) = _ at e19
      change (OwnL wa.heap.size 14 (frB m22 m21) : Pred) (ev (.tmp 22)) w' at e22
      have HK := Lib.hid hK
      have HC := Lib.hid hC
      have HL := Lib.hid hL
      have HX := Lib.hid hx
      have hc := hx.cst
      have hf := hx.fn
      clear hx hK hC hL
      have qa : ev (.tmp 19) = .agg #[.int .i64 (P : Int), .slice none 0 0] := e19
      have hbr : BrT w' (.agg #[.int .i64 (P : Int), .slice none 0 0]) P _ := ⟨_, rfl, HC.out.ks HN.out HKS.out⟩
      have hf9 := byt_frame e22
      have HBR := Lib.hid hbr
      have HF9 := Lib.hid hf9
      clear hbr hf9 e22
      unfold Run
      simp [execOp, Upon, go_sem, *]
      refine (fw_of HBR.out HL0.out HPP.out HF9.out HF1.out).mono ?_
      rintro e w2 ⟨v2, rfl, ho, hb⟩
      exact ⟨_, rfl, HK.out _ _ (.inl ⟨hb, by decide⟩) ho⟩
    · intro L ev w' hC hL hx K hK
      have e23 := hx.held 4 _ rfl (by kernel_rfl)
      change (FwV P [⟨m21, 0⟩] [1, 2] 0 : Pred) (ev (.tmp 23)) w' at e23
      have HK := Lib.hid hK
      have HC := Lib.hid hC
      have HL := Lib.hid hL
      have HX := Lib.hid hx
      have hc := hx.cst
      skip
      clear hx hK hC hL
      obtain ⟨x1, x2, qx, h1, h2⟩ := e23
      have H1 := Lib.hid h1
      have H2 := Lib.hid h2
      clear h1 h2
      unfold Run
      simp [execOp, Upon, go_sem, *]
      exact HK.out _ _ (.inl ⟨Below.refl _ _, by decide⟩) ⟨x1, x2, rfl, H1.out, H2.out⟩
    · intro L ev w' hC hL hx K hK
      have e18 := hx.held 5 _ rfl (by kernel_rfl)
      change (FwV P [⟨m21, 0⟩] [1, 2] 0 : Pred) (ev (.tmp 18)) w' at e18
      have HK := Lib.hid hK
      have HC := Lib.hid hC
      have HL := Lib.hid hL
      have HX := Lib.hid hx
      have hc := hx.cst
      skip
      clear hx hK hC hL
      obtain ⟨x1, x2, qx, h1, h2⟩ := e18
      have H1 := Lib.hid h1
      have H2 := Lib.hid h2
      clear h1 h2
      unfold Run
      simp [execOp, Upon, go_sem, *]
      exact HK.out _ _ (.inl ⟨Below.refl _ _, by decide⟩) H1.out
    · intro L ev w' hC hL hx K hK
      have e18 := hx.held 5 _ rfl (by kernel_rfl)
      change (FwV P [⟨m21, 0⟩] [1, 2] 0 : Pred) (ev (.tmp 18)) w' at e18
      have HK := Lib.hid hK
      have HC := Lib.hid hC
      have HL := Lib.hid hL
      have HX := Lib.hid hx
      have hc := hx.cst
      skip
      clear hx hK hC hL
      obtain ⟨x1, x2, qx, h1, h2⟩ := e18
      have H1 := Lib.hid h1
      have H2 := Lib.hid h2
      clear h1 h2
      unfold Run
      simp [execOp, Upon, go_sem, *]
      exact HK.out _ _ (.inl ⟨Below.refl _ _, by decide⟩) H2.out
    · intro L ev w' hC hL hx K hK
      have e18 := hx.held 5 _ rfl (by kernel_rfl)
      change (FwV P [⟨m21, 0⟩] [1, 2] 0 : Pred) (ev (.tmp 18)) w' at e18
      have HK := Lib.hid hK
      have HC := Lib.hid hC
      have HL := Lib.hid hL
      have HX := Lib.hid hx
      have hc := hx.cst
      skip
      clear hx hK hC hL
      obtain ⟨x1, x2, qx, h1, h2⟩ := e18
      have H1 := Lib.hid h1
      have H2 := Lib.hid h2
      clear h1 h2
      unfold Run
      simp [execOp, Upon, go_sem, *]
      exact HK.out _ _ (.inl ⟨Below.refl _ _, by decide⟩) rfl
    · intro L ev w' hC hL hx K hK
      have e3 : ev (.tmp 3) = _ := hx.base 3 (by kernel_rfl)
      have e24 := hx.held 6 _ rfl (by kernel_rfl)
      change (BrV P [⟨m21, 0⟩] : Pred) (ev (.tmp 24)) w' at e24
      have HK := Lib.hid hK
      have HC := Lib.hid hC
      have HL := Lib.hid hL
      have HX := Lib.hid hx
      have hc := hx.cst
      skip
      clear hx hK hC hL
      have hbr : BrT w' (ev (.tmp 24)) P [⟨m21, 0⟩] := e24
      obtain ⟨Ax, nx, cx, qv⟩ := hbr.form
      rw [qv] at hbr
      have nst : L 9 = false := HL.out
      have qp : ev (.tmp 3) = .pointer (some ⟨N, 0, none⟩) := e3
      obtain ⟨hgh, hnv⟩ := HC.out.store nst hbr rfl
      have hst := run_storeVar_row (P := Try.prog) w' N 27 27 #[.int .i64 (P : Int), .slice none 0 0] #[.int .i64 (P : Int), .slice Ax nx cx] hgh (by kernel_rfl) rfl (B2_ones _ _ _ _)
      unfold Run
      rw [rely_store 27 _ _ rfl qp qv hst]
      refine HK.out _ _ (.inr ⟨hnv, fun j hj hlj u hr => ?_⟩) trivial
      rcases j with _ | _ | _ | _ | _ | _ | _ | _ | _ | _ | _ | _ | j
      · exact hr
      · exact hr
      · exact hr
      · exact ow_set hr hgh _
      · exact fw_set hr hgh _
      · exact fw_set hr hgh _
      · exact br_set hr hgh _
      · exact is_set hr hgh _
      · exact hr
      · exact absurd rfl hj
      · exact is_set hr hgh _
      · exact hr
      · exact trivial
    · intro L ev w' hC hL hx K hK
      have e25 := hx.held 7 _ rfl (by kernel_rfl)
      change (IsV [1, 2] : Pred) (ev (.tmp 25)) w' at e25
      have HK := Lib.hid hK
      have HC := Lib.hid hC
      have HL := Lib.hid hL
      have HX := Lib.hid hx
      have hc := hx.cst
      skip
      clear hx hK hC hL
      have h1 : IsT w' (ev (.tmp 25)) [1, 2] := e25
      obtain ⟨Ax, cx, qx⟩ := h1.form
      rw [qx] at h1
      have H1 := Lib.hid h1
      clear h1 e25
      unfold Run
      simp [execOp, Upon, go_sem, *]
      exact HK.out _ _ (.inl ⟨Below.refl _ _, by decide⟩) H1.out
    · intro L ev w' hC hL hx K hK
      have e26 := hx.held 8 _ rfl (by kernel_rfl)
      change ev (.tmp 26) = _ at e26
      have HK := Lib.hid hK
      have HC := Lib.hid hC
      have HL := Lib.hid hL
      have HX := Lib.hid hx
      have hc := hx.cst
      skip
      clear hx hK hC hL
      unfold Run
      simp [execOp, Upon, go_sem, *]
      exact HK.out _ _ (.inl ⟨Below.refl _ _, by decide⟩) rfl
  · exact rl_mono ⟨is_mono _, is_mono _, is_mono _, ownL_mono _ _ _, fwV_mono _ _ _ _, fwV_mono _ _ _ _, brV_mono _ _, isV_mono _, is_mono _, any_mono, isV_mono _, is_mono _, trivial⟩
  · exact fun L L' w' h1 hg => hg.agree (h1 9 (by simp))
  · exact fun L w' w'' hb hg => hg.below hb
  · exact ⟨Gro.refl _, fun _ => HN.out, fun h => (by cases h)⟩
  · simp
  intro us wr hG hH
  obtain ⟨-, -, -, -, -, -, -, -, -, -, h10, h11, -⟩ := hH
  simp only [fillM]
  obtain ⟨hG9, -, hvn⟩ := hG
  have HVN := Lib.hid (hvn rfl)
  have HG9 := Lib.hid hG9
  clear hG9 hvn
  change (IsV [1, 2] : Pred) (us 5) wr at h10
  change us 6 = _ at h11
  rw [h11]
  clear h11
  generalize us 19 = v19
  generalize us 20 = v20
  generalize us 21 = v21
  generalize us 22 = v22
  generalize us 23 = v23
  generalize us 18 = v18
  generalize us 24 = v24
  generalize us 25 = v25
  generalize us 26 = v26
  generalize us 5 = v5 at h10 ⊢
  have HI9 := Lib.hid h10
  clear h10
  generalize wr = wb at HVN HG9 HI9 ⊢
  have HXA := Lib.hid ((HG9.out.block W (row_lt HXA.out) HXAn.out).trans HXA.out)
  have HYA := Lib.hid ((HG9.out.block bc (row_lt HYA.out) HYAn.out).trans HYA.out)
  have HB3 : Hid (Below W w wb) := HB2.out.trans (HG9.out.below (fun k hk => by rw [hk]; exact HLN.out) HLA.out)
  have HLA : Hid (W ≤ wb.heap.size) := Nat.le_of_lt (row_lt HXA.out)
  have HI5 := HI9
  clear HI9 HG9 HKS
  obtain ⟨sb, hn9, hk9⟩ := HVN.out
  have HN := Lib.hid hn9
  have HKS := Lib.hid hk9
  clear hn9 hk9 HVN
  go_upto_region 4 with (fail)
  apply wp_region_relyG [9] (OldV wb N 9 #[.int .i64 (P : Int), sb] P [⟨m21, 0⟩, ⟨m22, 2⟩]) (RL [Is (.agg #[.int .i64 (P : Int), sb]), Is (.agg (macA m21)), Is (.agg (macA m22)), OwnL wb.heap.size 14 (frB m21 m22), FwV P [⟨m21, 0⟩, ⟨m22, 2⟩] [0] 0, FwV P [⟨m21, 0⟩, ⟨m22, 2⟩] [0] 0, BrV P [⟨m21, 0⟩, ⟨m22, 2⟩], IsV [0], Is (.int .i64 0), Any, IsV [0], Is (.int .i64 0)]) [false, false, false, false, false, false, false, true, true, false, false, false, false, false, false, false, false, false, false, false, false, false, false, false, false, false, false, true, true, true, true, true, true, true, true, true, false, false, false, false, false, false, false, false, false, false, false, false, false, false, false, false, false, false, false, false, false, false, false, false, false, false, false, false, false, false, false, false, false, false, false, false, false, false, false, false, false, false, false, false, false, false, false, false, false, false]
  · kernel_rfl
  · kernel_rfl
  · kernel_rfl
  · refine ⟨?_, ?_, ?_, ?_, ?_, ?_, ?_, ?_, ?_, ?_, ?_, ?_, trivial⟩
    · intro L ev w' hC hL hx K hK
      have e3 : ev (.tmp 3) = _ := hx.base 3 (by kernel_rfl)
      have HK := Lib.hid hK
      have HC := Lib.hid hC
      have HL := Lib.hid hL
      have HX := Lib.hid hx
      have hc := hx.cst
      skip
      clear hx hK hC hL
      have nst : L 9 = false := Bool.eq_false_iff.2 fun h => by have h9 := (HX.out.closed 4 _ 0 rfl (HX.out.closed 5 _ 4 rfl (HX.out.closed 6 _ 5 rfl (HX.out.closed 9 _ 6 rfl h (by kernel_rfl)) (by kernel_rfl)) (by kernel_rfl)) (by kernel_rfl)); rw [HL.out] at h9; cases h9
      have q1 : ev (.tmp 3) = .pointer (some ⟨N, 0, none⟩) := e3
      have hld := run_loadVar_row (P := Try.prog) w' N 27 27 #[.int .i64 (P : Int), sb] (0, 0) _ (HC.out.2.1 nst) Try.underlying27 rfl (by kernel_rfl)
      unfold Run
      rw [rely_load 27 _ rfl q1 hld]
      exact HK.out _ _ (.inl ⟨Below.refl _ _, by decide⟩) rfl
    · intro L ev w' hC hL hx K hK
      have e1 : ev (.tmp 1) = _ := hx.base 1 (by kernel_rfl)
      have HK := Lib.hid hK
      have HC := Lib.hid hC
      have HL := Lib.hid hL
      have HX := Lib.hid hx
      have hc := hx.cst
      skip
      clear hx hK hC hL
      have q1 : ev (.tmp 1) = .pointer (some ⟨W, 0, none⟩) := e1
      have hld := run_loadVar_row (P := Try.prog) w' W 46 46 (macA m21) (0, 0) _ ((HC.out.1.block W (row_lt HXA.out) HXAn.out).trans HXA.out) Try.underlying46 rfl (by kernel_rfl)
      unfold Run
      rw [rely_load 46 _ rfl q1 hld]
      exact HK.out _ _ (.inl ⟨Below.refl _ _, by decide⟩) rfl
    · intro L ev w' hC hL hx K hK
      have e2 : ev (.tmp 2) = _ := hx.base 2 (by kernel_rfl)
      have HK := Lib.hid hK
      have HC := Lib.hid hC
      have HL := Lib.hid hL
      have HX := Lib.hid hx
      have hc := hx.cst
      skip
      clear hx hK hC hL
      have q1 : ev (.tmp 2) = .pointer (some ⟨bc, 0, none⟩) := e2
      have hld := run_loadVar_row (P := Try.prog) w' bc 46 46 (macA m22) (0, 0) _ ((HC.out.1.block bc (row_lt HYA.out) HYAn.out).trans HYA.out) Try.underlying46 rfl (by kernel_rfl)
      unfold Run
      rw [rely_load 46 _ rfl q1 hld]
      exact HK.out _ _ (.inl ⟨Below.refl _ _, by decide⟩) rfl
    · intro L ev w' hC hL hx K hK
      have e29 := hx.held 1 _ rfl (by kernel_rfl)
      have e30 := hx.held 2 _ rfl (by kernel_rfl)
      change ev (.tmp 29) = _ at e29
      change ev (.tmp 30) = _ at e30
      have HK := Lib.hid hK
      have HC := Lib.hid hC
      have HL := Lib.hid hL
      have HX := Lib.hid hx
      have hc := hx.cst
      have hf := hx.fn
      clear hx hK hC hL
      have qa : ev (.tmp 29) = .agg (macA m21) := e29
      have qb : ev (.tmp 30) = .agg (macA m22) := e30
      unfold Run
      simp [execOp, Upon, go_sem, *]
      refine (frame_any m21 m22 w').mono ?_
      rintro e w2 ⟨A2, c2, rfl, ho, hb⟩
      exact ⟨_, rfl, HK.out _ _ (.inl ⟨hb, by decide⟩) (ownL_of (own_base ho HC.out.1.size) (by decide))⟩
    · intro L ev w' hC hL hx K hK
      have e28 := hx.held 0 _ rfl (by kernel_rfl)
      have e31 := hx.held 3 _ rfl (by kernel_rfl)
      change ev (.tmp 28) = _ at e28
      change (OwnL wb.heap.size 14 (frB m21 m22) : Pred) (ev (.tmp 31)) w' at e31
      have HK := Lib.hid hK
      have HC := Lib.hid hC
      have HL := Lib.hid hL
      have HX := Lib.hid hx
      have hc := hx.cst
      have hf := hx.fn
      clear hx hK hC hL
      have qa : ev (.tmp 28) = .agg #[.int .i64 (P : Int), sb] := e28
      have hbr : BrT w' (.agg #[.int .i64 (P : Int), sb]) P _ := ⟨_, rfl, HC.out.ks HN.out HKS.out⟩
      have hf9 := byt_frame e31
      have HBR := Lib.hid hbr
      have HF9 := Lib.hid hf9
      clear hbr hf9 e31
      unfold Run
      simp [execOp, Upon, go_sem, *]
      refine (fw_of HBR.out HL1.out HPP.out HF9.out HF2.out).mono ?_
      rintro e w2 ⟨v2, rfl, ho, hb⟩
      exact ⟨_, rfl, HK.out _ _ (.inl ⟨hb, by decide⟩) ho⟩
    · intro L ev w' hC hL hx K hK
      have e32 := hx.held 4 _ rfl (by kernel_rfl)
      change (FwV P [⟨m21, 0⟩, ⟨m22, 2⟩] [0] 0 : Pred) (ev (.tmp 32)) w' at e32
      have HK := Lib.hid hK
      have HC := Lib.hid hC
      have HL := Lib.hid hL
      have HX := Lib.hid hx
      have hc := hx.cst
      skip
      clear hx hK hC hL
      obtain ⟨x1, x2, qx, h1, h2⟩ := e32
      have H1 := Lib.hid h1
      have H2 := Lib.hid h2
      clear h1 h2
      unfold Run
      simp [execOp, Upon, go_sem, *]
      exact HK.out _ _ (.inl ⟨Below.refl _ _, by decide⟩) ⟨x1, x2, rfl, H1.out, H2.out⟩
    · intro L ev w' hC hL hx K hK
      have e27 := hx.held 5 _ rfl (by kernel_rfl)
      change (FwV P [⟨m21, 0⟩, ⟨m22, 2⟩] [0] 0 : Pred) (ev (.tmp 27)) w' at e27
      have HK := Lib.hid hK
      have HC := Lib.hid hC
      have HL := Lib.hid hL
      have HX := Lib.hid hx
      have hc := hx.cst
      skip
      clear hx hK hC hL
      obtain ⟨x1, x2, qx, h1, h2⟩ := e27
      have H1 := Lib.hid h1
      have H2 := Lib.hid h2
      clear h1 h2
      unfold Run
      simp [execOp, Upon, go_sem, *]
      exact HK.out _ _ (.inl ⟨Below.refl _ _, by decide⟩) H1.out
    · intro L ev w' hC hL hx K hK
      have e27 := hx.held 5 _ rfl (by kernel_rfl)
      change (FwV P [⟨m21, 0⟩, ⟨m22, 2⟩] [0] 0 : Pred) (ev (.tmp 27)) w' at e27
      have HK := Lib.hid hK
      have HC := Lib.hid hC
      have HL := Lib.hid hL
      have HX := Lib.hid hx
      have hc := hx.cst
      skip
      clear hx hK hC hL
      obtain ⟨x1, x2, qx, h1, h2⟩ := e27
      have H1 := Lib.hid h1
      have H2 := Lib.hid h2
      clear h1 h2
      unfold Run
      simp [execOp, Upon, go_sem, *]
      exact HK.out _ _ (.inl ⟨Below.refl _ _, by decide⟩) H2.out
    · intro L ev w' hC hL hx K hK
      have e27 := hx.held 5 _ rfl (by kernel_rfl)
      change (FwV P [⟨m21, 0⟩, ⟨m22, 2⟩] [0] 0 : Pred) (ev (.tmp 27)) w' at e27
      have HK := Lib.hid hK
      have HC := Lib.hid hC
      have HL := Lib.hid hL
      have HX := Lib.hid hx
      have hc := hx.cst
      skip
      clear hx hK hC hL
      obtain ⟨x1, x2, qx, h1, h2⟩ := e27
      have H1 := Lib.hid h1
      have H2 := Lib.hid h2
      clear h1 h2
      unfold Run
      simp [execOp, Upon, go_sem, *]
      exact HK.out _ _ (.inl ⟨Below.refl _ _, by decide⟩) rfl
    · intro L ev w' hC hL hx K hK
      have e3 : ev (.tmp 3) = _ := hx.base 3 (by kernel_rfl)
      have e33 := hx.held 6 _ rfl (by kernel_rfl)
      change (BrV P [⟨m21, 0⟩, ⟨m22, 2⟩] : Pred) (ev (.tmp 33)) w' at e33
      have HK := Lib.hid hK
      have HC := Lib.hid hC
      have HL := Lib.hid hL
      have HX := Lib.hid hx
      have hc := hx.cst
      skip
      clear hx hK hC hL
      have hbr : BrT w' (ev (.tmp 33)) P [⟨m21, 0⟩, ⟨m22, 2⟩] := e33
      obtain ⟨Ax, nx, cx, qv⟩ := hbr.form
      rw [qv] at hbr
      have nst : L 9 = false := HL.out
      have qp : ev (.tmp 3) = .pointer (some ⟨N, 0, none⟩) := e3
      obtain ⟨hgh, hnv⟩ := HC.out.store nst hbr rfl
      have hst := run_storeVar_row (P := Try.prog) w' N 27 27 #[.int .i64 (P : Int), sb] #[.int .i64 (P : Int), .slice Ax nx cx] hgh (by kernel_rfl) rfl (B2_ones _ _ _ _)
      unfold Run
      rw [rely_store 27 _ _ rfl qp qv hst]
      refine HK.out _ _ (.inr ⟨hnv, fun j hj hlj u hr => ?_⟩) trivial
      rcases j with _ | _ | _ | _ | _ | _ | _ | _ | _ | _ | _ | _ | j
      · exact hr
      · exact hr
      · exact hr
      · exact ow_set hr hgh _
      · exact fw_set hr hgh _
      · exact fw_set hr hgh _
      · exact br_set hr hgh _
      · exact is_set hr hgh _
      · exact hr
      · exact absurd rfl hj
      · exact is_set hr hgh _
      · exact hr
      · exact trivial
    · intro L ev w' hC hL hx K hK
      have e34 := hx.held 7 _ rfl (by kernel_rfl)
      change (IsV [0] : Pred) (ev (.tmp 34)) w' at e34
      have HK := Lib.hid hK
      have HC := Lib.hid hC
      have HL := Lib.hid hL
      have HX := Lib.hid hx
      have hc := hx.cst
      skip
      clear hx hK hC hL
      have h1 : IsT w' (ev (.tmp 34)) [0] := e34
      obtain ⟨Ax, cx, qx⟩ := h1.form
      rw [qx] at h1
      have H1 := Lib.hid h1
      clear h1 e34
      unfold Run
      simp [execOp, Upon, go_sem, *]
      exact HK.out _ _ (.inl ⟨Below.refl _ _, by decide⟩) H1.out
    · intro L ev w' hC hL hx K hK
      have e35 := hx.held 8 _ rfl (by kernel_rfl)
      change ev (.tmp 35) = _ at e35
      have HK := Lib.hid hK
      have HC := Lib.hid hC
      have HL := Lib.hid hL
      have HX := Lib.hid hx
      have hc := hx.cst
      skip
      clear hx hK hC hL
      unfold Run
      simp [execOp, Upon, go_sem, *]
      exact HK.out _ _ (.inl ⟨Below.refl _ _, by decide⟩) rfl
  · exact rl_mono ⟨is_mono _, is_mono _, is_mono _, ownL_mono _ _ _, fwV_mono _ _ _ _, fwV_mono _ _ _ _, brV_mono _ _, isV_mono _, is_mono _, any_mono, isV_mono _, is_mono _, trivial⟩
  · exact fun L L' w' h1 hg => hg.agree (h1 9 (by simp))
  · exact fun L w' w'' hb hg => hg.below hb
  · exact ⟨Gro.refl _, fun _ => HN.out, fun h => (by cases h)⟩
  · simp
  intro us wr hG hH
  obtain ⟨-, -, -, -, -, -, -, -, -, -, h10, h11, -⟩ := hH
  simp only [fillM]
  obtain ⟨hG9, -, hvn⟩ := hG
  have HVN := Lib.hid (hvn rfl)
  have HG9 := Lib.hid hG9
  clear hG9 hvn
  change (IsV [0] : Pred) (us 7) wr at h10
  change us 8 = _ at h11
  rw [h11]
  clear h11
  generalize us 28 = v28
  generalize us 29 = v29
  generalize us 30 = v30
  generalize us 31 = v31
  generalize us 32 = v32
  generalize us 27 = v27
  generalize us 33 = v33
  generalize us 34 = v34
  generalize us 35 = v35
  generalize us 7 = v7 at h10 ⊢
  have HI9 := Lib.hid h10
  clear h10
  generalize wr = wc at HVN HG9 HI9 ⊢
  have HXA := Lib.hid ((HG9.out.block W (row_lt HXA.out) HXAn.out).trans HXA.out)
  have HYA := Lib.hid ((HG9.out.block bc (row_lt HYA.out) HYAn.out).trans HYA.out)
  have HI5 := Lib.hid (is_gro HI5.out HG9.out HN.out)
  have HB4 : Hid (Below W w wc) := HB3.out.trans (HG9.out.below (fun k hk => by rw [hk]; exact HLN.out) HLA.out)
  have HLA : Hid (W ≤ wc.heap.size) := Nat.le_of_lt (row_lt HXA.out)
  have HI7 := HI9
  clear HI9 HG9 HKS
  obtain ⟨sc, hn9, hk9⟩ := HVN.out
  have HN := Lib.hid hn9
  have HKS := Lib.hid hk9
  clear hn9 hk9 HVN
  go_upto_region 5 with (fail)
  apply wp_region_relyV [9, 10] [9] (NewV wc 9 10 9 P [⟨m22, 2⟩, ⟨m21, 0⟩]) (RL [Is (.agg #[.int .i64 (P : Int), sc]), Is (.agg (macA m22)), Is (.agg (macA m21)), OwnL wc.heap.size 14 (frB m22 m21), FwV P [⟨m22, 2⟩, ⟨m21, 0⟩] [2] 0, FwV P [⟨m22, 2⟩, ⟨m21, 0⟩] [2] 0, BrV P [⟨m22, 2⟩, ⟨m21, 0⟩], IsV [2], Is (.int .i64 0), Any, Any, IsV [2], Is (.int .i64 0)]) [false, false, false, false, false, false, false, false, false, true, true, true, false, false, false, false, false, false, false, false, false, false, false, false, false, false, false, false, false, false, false, false, false, false, false, false, true, true, true, true, true, true, true, true, true, false, false, false, false, false, false, false, false, false, false, false, false, false, false, false, false, false, false, false, false, false, false, false, false, false, false, false, false, false, false, false, false, false, false, false, false, false, false, false, false, false]
  · kernel_rfl
  · kernel_rfl
  · kernel_rfl
  · refine ⟨?_, ?_, ?_, ?_, ?_, ?_, ?_, ?_, ?_, ?_, ?_, ?_, ?_, trivial⟩
    · intro L us ev w' hus hC hL hx hnd K hK
      have e3 : ev (.tmp 3) = _ := hx.base 3 (by kernel_rfl)
      have HK := Lib.hid hK
      have HC := Lib.hid hC
      have HL := Lib.hid hL
      have HX := Lib.hid hx
      have HUS := Lib.hid hus
      have HND := Lib.hid hnd
      have hc := hx.cst
      skip
      clear hx hK hC hL hus hnd
      have q1 : ev (.tmp 3) = .pointer (some ⟨N, 0, none⟩) := e3
      have hld := run_loadVar_row (P := Try.prog) w' N 27 27 #[.int .i64 (P : Int), sc] (0, 0) _ ((HC.out.1.block N (row_lt HN.out)).trans HN.out) Try.underlying27 rfl (by kernel_rfl)
      unfold Run
      rw [rely_load 27 _ rfl q1 hld]
      exact HK.out _ _ (.inl ⟨Below.refl _ _, by decide⟩) rfl
    · intro L us ev w' hus hC hL hx hnd K hK
      have e2 : ev (.tmp 2) = _ := hx.base 2 (by kernel_rfl)
      have HK := Lib.hid hK
      have HC := Lib.hid hC
      have HL := Lib.hid hL
      have HX := Lib.hid hx
      have HUS := Lib.hid hus
      have HND := Lib.hid hnd
      have hc := hx.cst
      skip
      clear hx hK hC hL hus hnd
      have q1 : ev (.tmp 2) = .pointer (some ⟨bc, 0, none⟩) := e2
      have hld := run_loadVar_row (P := Try.prog) w' bc 46 46 (macA m22) (0, 0) _ ((HC.out.1.block bc (row_lt HYA.out)).trans HYA.out) Try.underlying46 rfl (by kernel_rfl)
      unfold Run
      rw [rely_load 46 _ rfl q1 hld]
      exact HK.out _ _ (.inl ⟨Below.refl _ _, by decide⟩) rfl
    · intro L us ev w' hus hC hL hx hnd K hK
      have e1 : ev (.tmp 1) = _ := hx.base 1 (by kernel_rfl)
      have HK := Lib.hid hK
      have HC := Lib.hid hC
      have HL := Lib.hid hL
      have HX := Lib.hid hx
      have HUS := Lib.hid hus
      have HND := Lib.hid hnd
      have hc := hx.cst
      skip
      clear hx hK hC hL hus hnd
      have q1 : ev (.tmp 1) = .pointer (some ⟨W, 0, none⟩) := e1
      have hld := run_loadVar_row (P := Try.prog) w' W 46 46 (macA m21) (0, 0) _ ((HC.out.1.block W (row_lt HXA.out)).trans HXA.out) Try.underlying46 rfl (by kernel_rfl)
      unfold Run
      rw [rely_load 46 _ rfl q1 hld]
      exact HK.out _ _ (.inl ⟨Below.refl _ _, by decide⟩) rfl
    · intro L us ev w' hus hC hL hx hnd K hK
      have e38 := hx.held 1 _ rfl (by kernel_rfl)
      have e39 := hx.held 2 _ rfl (by kernel_rfl)
      change ev (.tmp 38) = _ at e38
      change ev (.tmp 39) = _ at e39
      have HK := Lib.hid hK
      have HC := Lib.hid hC
      have HL := Lib.hid hL
      have HX := Lib.hid hx
      have HUS := Lib.hid hus
      have HND := Lib.hid hnd
      have hc := hx.cst
      have hf := hx.fn
      clear hx hK hC hL hus hnd
      have qa : ev (.tmp 38) = .agg (macA m22) := e38
      have qb : ev (.tmp 39) = .agg (macA m21) := e39
      unfold Run
      simp [execOp, Upon, go_sem, *]
      refine (frame_any m22 m21 w').mono ?_
      rintro e w2 ⟨A2, c2, rfl, ho, hb⟩
      exact ⟨_, rfl, HK.out _ _ (.inl ⟨hb, by decide⟩) (ownL_of (own_base ho HC.out.1.size) (by decide))⟩
    · intro L us ev w' hus hC hL hx hnd K hK
      have e37 := hx.held 0 _ rfl (by kernel_rfl)
      have e40 := hx.held 3 _ rfl (by kernel_rfl)
      change ev (.tmp 37) = _ at e37
      change (OwnL wc.heap.size 14 (frB m22 m21) : Pred) (ev (.tmp 40)) w' at e40
      have HK := Lib.hid hK
      have HC := Lib.hid hC
      have HL := Lib.hid hL
      have HX := Lib.hid hx
      have HUS := Lib.hid hus
      have HND := Lib.hid hnd
      have hc := hx.cst
      have hf := hx.fn
      clear hx hK hC hL hus hnd
      have qa : ev (.tmp 37) = .agg #[.int .i64 (P : Int), sc] := e37
      have hbr : BrT w' (.agg #[.int .i64 (P : Int), sc]) P _ := ⟨_, rfl, HKS.out.below HC.out.1⟩
      have hf9 := byt_frame e40
      have HBR := Lib.hid hbr
      have HF9 := Lib.hid hf9
      clear hbr hf9 e40
      unfold Run
      simp [execOp, Upon, go_sem, *]
      refine (fw_of HBR.out HL2.out HPP.out HF9.out HF3.out).mono ?_
      rintro e w2 ⟨v2, rfl, ho, hb⟩
      exact ⟨_, rfl, HK.out _ _ (.inl ⟨hb, by decide⟩) ho⟩
    · intro L us ev w' hus hC hL hx hnd K hK
      have e41 := hx.held 4 _ rfl (by kernel_rfl)
      change (FwV P [⟨m22, 2⟩, ⟨m21, 0⟩] [2] 0 : Pred) (ev (.tmp 41)) w' at e41
      have HK := Lib.hid hK
      have HC := Lib.hid hC
      have HL := Lib.hid hL
      have HX := Lib.hid hx
      have HUS := Lib.hid hus
      have HND := Lib.hid hnd
      have hc := hx.cst
      skip
      clear hx hK hC hL hus hnd
      obtain ⟨x1, x2, qx, h1, h2⟩ := e41
      have H1 := Lib.hid h1
      have H2 := Lib.hid h2
      clear h1 h2
      unfold Run
      simp [execOp, Upon, go_sem, *]
      exact HK.out _ _ (.inl ⟨Below.refl _ _, by decide⟩) ⟨x1, x2, rfl, H1.out, H2.out⟩
    · intro L us ev w' hus hC hL hx hnd K hK
      have e36 := hx.held 5 _ rfl (by kernel_rfl)
      change (FwV P [⟨m22, 2⟩, ⟨m21, 0⟩] [2] 0 : Pred) (ev (.tmp 36)) w' at e36
      have HK := Lib.hid hK
      have HC := Lib.hid hC
      have HL := Lib.hid hL
      have HX := Lib.hid hx
      have HUS := Lib.hid hus
      have HND := Lib.hid hnd
      have hc := hx.cst
      skip
      clear hx hK hC hL hus hnd
      obtain ⟨x1, x2, qx, h1, h2⟩ := e36
      have H1 := Lib.hid h1
      have H2 := Lib.hid h2
      clear h1 h2
      unfold Run
      simp [execOp, Upon, go_sem, *]
      exact HK.out _ _ (.inl ⟨Below.refl _ _, by decide⟩) H1.out
    · intro L us ev w' hus hC hL hx hnd K hK
      have e36 := hx.held 5 _ rfl (by kernel_rfl)
      change (FwV P [⟨m22, 2⟩, ⟨m21, 0⟩] [2] 0 : Pred) (ev (.tmp 36)) w' at e36
      have HK := Lib.hid hK
      have HC := Lib.hid hC
      have HL := Lib.hid hL
      have HX := Lib.hid hx
      have HUS := Lib.hid hus
      have HND := Lib.hid hnd
      have hc := hx.cst
      skip
      clear hx hK hC hL hus hnd
      obtain ⟨x1, x2, qx, h1, h2⟩ := e36
      have H1 := Lib.hid h1
      have H2 := Lib.hid h2
      clear h1 h2
      unfold Run
      simp [execOp, Upon, go_sem, *]
      exact HK.out _ _ (.inl ⟨Below.refl _ _, by decide⟩) H2.out
    · intro L us ev w' hus hC hL hx hnd K hK
      have e36 := hx.held 5 _ rfl (by kernel_rfl)
      change (FwV P [⟨m22, 2⟩, ⟨m21, 0⟩] [2] 0 : Pred) (ev (.tmp 36)) w' at e36
      have HK := Lib.hid hK
      have HC := Lib.hid hC
      have HL := Lib.hid hL
      have HX := Lib.hid hx
      have HUS := Lib.hid hus
      have HND := Lib.hid hnd
      have hc := hx.cst
      skip
      clear hx hK hC hL hus hnd
      obtain ⟨x1, x2, qx, h1, h2⟩ := e36
      have H1 := Lib.hid h1
      have H2 := Lib.hid h2
      clear h1 h2
      unfold Run
      simp [execOp, Upon, go_sem, *]
      exact HK.out _ _ (.inl ⟨Below.refl _ _, by decide⟩) rfl
    · intro L us ev w' hus hC hL hx hnd K hK
      have HK := Lib.hid hK
      have HC := Lib.hid hC
      have HL := Lib.hid hL
      have HX := Lib.hid hx
      have HUS := Lib.hid hus
      have HND := Lib.hid hnd
      have hc := hx.cst
      skip
      clear hx hK hC hL hus hnd
      have nst : L 10 = false := Bool.eq_false_iff.2 fun h => by have := HX.out.closed 10 _ 9 rfl h (by kernel_rfl); rw [HL.out] at this; cases this
      unfold Run
      simp [execOp, Upon, go_sem]
      exact HK.out _ _ (.inr ⟨HC.out.alloc nst (by decide), fun j hj hlj u hr => rl_mono (Rs := [Is (.agg #[.int .i64 (P : Int), sc]), Is (.agg (macA m22)), Is (.agg (macA m21)), OwnL wc.heap.size 14 (frB m22 m21), FwV P [⟨m22, 2⟩, ⟨m21, 0⟩] [2] 0, FwV P [⟨m22, 2⟩, ⟨m21, 0⟩] [2] 0, BrV P [⟨m22, 2⟩, ⟨m21, 0⟩], IsV [2], Is (.int .i64 0), Any, Any, IsV [2], Is (.int .i64 0)]) ⟨is_mono _, is_mono _, is_mono _, ownL_mono _ _ _, fwV_mono _ _ _ _, fwV_mono _ _ _ _, brV_mono _ _, isV_mono _, is_mono _, any_mono, any_mono, isV_mono _, is_mono _, trivial⟩ j u _ _ ((Below.refl _ _).alloc (Nat.le_refl _) _) hr⟩) trivial
    · intro L us ev w' hus hC hL hx hnd K hK
      have e9 := hx.held 9 _ rfl (by kernel_rfl)
      have e42 := hx.held 6 _ rfl (by kernel_rfl)
      change (Any : Pred) (ev (.tmp 9)) w' at e9
      change (BrV P [⟨m22, 2⟩, ⟨m21, 0⟩] : Pred) (ev (.tmp 42)) w' at e42
      have HK := Lib.hid hK
      have HC := Lib.hid hC
      have HL := Lib.hid hL
      have HX := Lib.hid hx
      have HUS := Lib.hid hus
      have HND := Lib.hid hnd
      have hc := hx.cst
      skip
      clear hx hK hC hL hus hnd
      have hbr : BrT w' (ev (.tmp 42)) P [⟨m22, 2⟩, ⟨m21, 0⟩] := e42
      obtain ⟨Ax, nx, cx, qv⟩ := hbr.form
      rw [qv] at hbr
      have nst : L 10 = false := HL.out
      have lal : L 9 = true := HND.out 9 (by kernel_rfl)
      obtain ⟨g, hg, -⟩ := HC.out.2 lal
      have qp : ev (.tmp 9) = .pointer (some ⟨g, 0, none⟩) := (HUS.out 9).trans hg
      obtain ⟨hgh, hnv⟩ := HC.out.store (v := undef) lal nst hg hbr (by decide)
      have hst := run_storeVar_row (P := Try.prog) w' g 27 27 B2 #[.int .i64 (P : Int), .slice Ax nx cx] hgh (by kernel_rfl) rfl (B2_ones _ _ _ _)
      unfold Run
      rw [rely_store 27 _ _ rfl qp qv hst]
      refine HK.out _ _ (.inr ⟨hnv.agree rfl rfl rfl, fun j hj hlj u hr => ?_⟩) trivial
      rcases j with _ | _ | _ | _ | _ | _ | _ | _ | _ | _ | _ | _ | _ | j
      · exact hr
      · exact hr
      · exact hr
      · exact ow_set hr hgh _
      · exact fw_set hr hgh _
      · exact fw_set hr hgh _
      · exact br_set hr hgh _
      · exact is_set hr hgh _
      · exact hr
      · exact trivial
      · exact absurd rfl hj
      · exact is_set hr hgh _
      · exact hr
      · exact trivial
    · intro L us ev w' hus hC hL hx hnd K hK
      have e43 := hx.held 7 _ rfl (by kernel_rfl)
      change (IsV [2] : Pred) (ev (.tmp 43)) w' at e43
      have HK := Lib.hid hK
      have HC := Lib.hid hC
      have HL := Lib.hid hL
      have HX := Lib.hid hx
      have HUS := Lib.hid hus
      have HND := Lib.hid hnd
      have hc := hx.cst
      skip
      clear hx hK hC hL hus hnd
      have h1 : IsT w' (ev (.tmp 43)) [2] := e43
      obtain ⟨Ax, cx, qx⟩ := h1.form
      rw [qx] at h1
      have H1 := Lib.hid h1
      clear h1 e43
      unfold Run
      simp [execOp, Upon, go_sem, *]
      exact HK.out _ _ (.inl ⟨Below.refl _ _, by decide⟩) H1.out
    · intro L us ev w' hus hC hL hx hnd K hK
      have e44 := hx.held 8 _ rfl (by kernel_rfl)
      change ev (.tmp 44) = _ at e44
      have HK := Lib.hid hK
      have HC := Lib.hid hC
      have HL := Lib.hid hL
      have HX := Lib.hid hx
      have HUS := Lib.hid hus
      have HND := Lib.hid hnd
      have hc := hx.cst
      skip
      clear hx hK hC hL hus hnd
      unfold Run
      simp [execOp, Upon, go_sem, *]
      exact HK.out _ _ (.inl ⟨Below.refl _ _, by decide⟩) rfl
  · exact rl_mono ⟨is_mono _, is_mono _, is_mono _, ownL_mono _ _ _, fwV_mono _ _ _ _, fwV_mono _ _ _ _, brV_mono _ _, isV_mono _, is_mono _, any_mono, any_mono, isV_mono _, is_mono _, trivial⟩
  · exact fun L L' us us' w' h1 h2 hg => hg.agree (h1 9 (by simp)) (h1 10 (by simp)) (h2 9 (by simp))
  · exact fun L us w' w'' hb hg => hg.below hb
  · kernel_rfl
  · exact ⟨Below.refl _ _, fun h => (by cases h)⟩
  · simp
  intro us wr hG hH
  obtain ⟨-, -, -, -, -, -, -, -, -, -, -, h11, h12, -⟩ := hH
  simp only [fillM]
  obtain ⟨hB9, hN9⟩ := hG
  obtain ⟨gn, hgn, hgb, -, hvn⟩ := hN9 rfl
  rw [hgn]
  have HVN := Lib.hid (hvn rfl)
  have HGB := Lib.hid hgb
  have HB9 := Lib.hid hB9
  clear hB9 hN9 hgb hvn
  change (IsV [2] : Pred) (us 10) wr at h11
  change us 11 = _ at h12
  rw [h12]
  clear h12
  generalize us 37 = v37
  generalize us 38 = v38
  generalize us 39 = v39
  generalize us 40 = v40
  generalize us 41 = v41
  generalize us 36 = v36
  generalize us 42 = v42
  generalize us 43 = v43
  generalize us 44 = v44
  generalize us 10 = v10 at h11 ⊢
  clear hgn
  have HI9 := Lib.hid h11
  clear h11
  have HB5 : Hid (Below W w wr) := HB4.out.trans (HB9.out.mono HLA.out)
  have i5 := HI5.out.below HB9.out
  have i7 := HI7.out.below HB9.out
  have i10 := HI9.out
  obtain ⟨A5, c5, q5⟩ := i5.form
  obtain ⟨a7, c7, q7, z7⟩ := is_at i7 (k := 0) rfl
  obtain ⟨a10, c10, q10, z10⟩ := is_at i10 (k := 0) rfl
  rw [q5, q7, q10]
  have y7 : wr.cell? a7 = some (.int .i64 0) := z7
  have y10 : wr.cell? a10 = some (.int .i64 2) := z10
  clear i5 i7 i10 q5 q7 q10 z7 z10 HI5 HI7 HI9 HVN HN HKS HXA HYA HXAn HYAn
  go_wp2
  go_ret
  exact ⟨rfl, by rw [HWE.out]; exact HB5.out⟩
end Go.Proofs.Ytecbelnmdimnkaa
