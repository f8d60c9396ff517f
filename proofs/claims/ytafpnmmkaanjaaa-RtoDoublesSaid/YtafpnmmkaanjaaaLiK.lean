/-
  The chapter's examples answer true; the law RtoMeasures: every clock, every time.
-/
import Derived.Test.YtafpnmmkaanjaaaRcc
import Derived.Test.YtafpnmmkaanjaaaRfe
namespace Go.Proofs.Ytafpnmmkaanjaaa
open Go.RowKit

set_option maxRecDepth 100000 in
set_option maxHeartbeats 4000000 in
theorem lives_any (w : World) : Calls Try.prog 7 #[] w fun e w' => e = .returned (.bool true) ∧ Below w.heap.size w w' := by
  have HN : Hid (∀ w, Calls Try.prog 14 #[] w fun e w' => e = .returned (.agg #[.int .i64 (-1), .int .i64 (-1), .int .i64 10]) ∧ Below w.heap.size w w') := fun w => new_any w
  have HM1 : Hid (∀ w, Calls Try.prog 10 #[.agg #[.int .i64 (-1), .int .i64 (-1), .int .i64 10], .int .u64 10] w fun e w' => e = .returned (.agg #[.int .i64 80, .int .i64 20, .int .i64 30]) ∧ Below w.heap.size w w') := fun w => meas_any newX 10 w new_right (by decide)
  have HM2 : Hid (∀ w, Calls Try.prog 10 #[.agg #[.int .i64 80, .int .i64 20, .int .i64 30], .int .u64 10] w fun e w' => e = .returned (.agg #[.int .i64 80, .int .i64 15, .int .i64 25]) ∧ Below w.heap.size w w') := fun w => meas_any ⟨80, 20, 30⟩ 10 w (by decide) (by decide)
  have heq1 : ∀ w, (Op.equalIn 10000 23 (.agg #[.int .i64 80, .int .i64 20, .int .i64 30]) (.agg #[.int .i64 80, .int .i64 20, .int .i64 30])).run Try.prog w = .ok true w := eq_ck 9998 ⟨80, 20, 30⟩ ⟨80, 20, 30⟩
  have heq2 : ∀ w, (Op.equalIn 10000 23 (.agg #[.int .i64 80, .int .i64 15, .int .i64 25]) (.agg #[.int .i64 80, .int .i64 15, .int .i64 25])).run Try.prog w = .ok true w := eq_ck 9998 ⟨80, 15, 25⟩ ⟨80, 15, 25⟩
  go_enter Try.func7, Try.ntmps7
  go_wp2_with fail
  refine (HN.out _).mono ?_
  rintro e w1 ⟨rfl, hb1⟩
  have HB1 := Lib.hid hb1
  clear hb1
  go_wp2_with fail
  refine (HM1.out _).mono ?_
  rintro e w2 ⟨rfl, hb2⟩
  have HB2 := Lib.hid (HB1.out.trans (hb2.mono HB1.out.size))
  clear hb2
  go_upto_region 2 with (first | (refine wpList_store_new rfl 23 _ _ rfl w2 #[.int .i64 0, .int .i64 0, .int .i64 0] #[.int .i64 80, .int .i64 20, .int .i64 30] rfl rfl (by kernel_rfl) rfl (by simp [Value.oneCell']) ?_) | go_in)
  have HX3 : Hid ((w2.alloc (.cells #[.int .i64 80, .int .i64 20, .int .i64 30] 23)).heap[w2.heap.size]? = some (.cells #[.int .i64 80, .int .i64 20, .int .i64 30] 23 (0, 0))) := heap_alloc_new w2 _
  have HB3 := Lib.hid (HB2.out.alloc HB2.out.size (.cells #[.int .i64 80, .int .i64 20, .int .i64 30] 23))
  generalize w2.alloc (.cells #[.int .i64 80, .int .i64 20, .int .i64 30] 23) = w3 at HX3 HB3 ⊢
  generalize w2.heap.size = N3 at HX3 ⊢
  obtain ⟨a0, a1, a2⟩ := three_cells HX3.out
  go_wp2_with fail
  refine (HM2.out _).mono ?_
  rintro e w4 ⟨rfl, hb4⟩
  have HB4 := Lib.hid (HB3.out.trans (hb4.mono HB3.out.size))
  clear hb4 a0 a1 a2
  go_wp2
  go_ret
  exact ⟨rfl, HB4.out⟩
theorem all_row {w : World} {b : Nat} {C : Array Value} {t : TypeId} {fr : Nat × Nat} (h : w.heap[b]? = some (.cells C t fr)) : ∀ w', Reg w w' → ∀ (j : Nat) v, C[j]? = some v → w'.cell? ((⟨b, 0, none⟩ : Addr).add j) = some v := fun w' hr j v hv => by
  rw [Addr.add_mid, Nat.zero_add, cell_of_row _ _ _ _ _ _ (old_below h (reg_below hr) (row_lt h))]
  exact hv
set_option maxRecDepth 100000 in
set_option maxHeartbeats 8000000 in
theorem measures_any (c : Ck) (tt : Nat) (w : World) (hs : I64 c.s) (hd : I64 c.d) (hw : I64 c.w) (ht : tt < 18446744073709551616) : Calls Try.prog 3 #[.agg (ckA c), .int .u64 (tt : Int)] w fun e w' => e = .returned (.bool true) ∧ Below w.heap.size w w' := by
  have HC1 : Hid (∀ w, Calls Try.prog 8 #[.agg (ckA c)] w fun e w' => e = .returned (.bool (rightX c)) ∧ Below w.heap.size w w') := fun w => right_any c w hs hd hw
  have HC2 : Hid (∀ w, Calls Try.prog 9 #[.agg (ckA c)] w fun e w' => e = .returned (.bool (rightX c)) ∧ Below w.heap.size w w') := fun w => refright_any c w
  have HC3 : Hid (rightX c = true → ∀ w, Calls Try.prog 10 #[.agg (ckA c), .int .u64 (tt : Int)] w fun e w' => e = .returned (.agg (ckA (measX c tt))) ∧ Below w.heap.size w w') := fun h w => meas_any c tt w h ht
  have HC4 : Hid (rightX c = true → ∀ w, Calls Try.prog 11 #[.agg (ckA c)] w fun e w' => e = .returned (.agg (ckA (dblX c))) ∧ Below w.heap.size w w') := fun h w => dbl_any c w h
  have HC5 : Hid (rightX c = true → ∀ w, Calls Try.prog 12 #[.agg (ckA c), .int .u64 (tt : Int)] w fun e w' => e = .returned (.agg (ckA (measX c tt))) ∧ Below w.heap.size w w') := fun h w => refmeas_any c tt w h ht
  have HC6 : Hid (rightX c = true → ∀ w, Calls Try.prog 13 #[.agg (ckA c)] w fun e w' => e = .returned (.agg (ckA (dblX c))) ∧ Below w.heap.size w w') := fun h w => refdbl_any c w h
  have HC7 : Hid (rightX c = true → ∀ w, Calls Try.prog 8 #[.agg (ckA (measX c tt))] w fun e w' => e = .returned (.bool true) ∧ Below w.heap.size w w') := fun h w => by
    have hm := meas_right (t := tt) h
    have h1 := right_iff.1 hm
    have := right_any (measX c tt) w (by unfold I64; omega) (by unfold I64; omega) (by unfold I64; omega)
    rw [hm] at this
    exact this
  have HC8 : Hid (rightX c = true → ∀ w, Calls Try.prog 8 #[.agg (ckA (dblX c))] w fun e w' => e = .returned (.bool true) ∧ Below w.heap.size w w') := fun h w => by
    have hm := dbl_right h
    have h1 := right_iff.1 hm
    have := right_any (dblX c) w (by unfold I64; omega) (by unfold I64; omega) (by unfold I64; omega)
    rw [hm] at this
    exact this
  have HE1 : Hid (∀ w, (Op.equalIn 10000 23 (.agg (ckA (measX c tt))) (.agg (ckA (measX c tt)))).run Try.prog w = .ok true w) := fun w => by rw [eq_ck 9998, decide_eq_true rfl]
  have HE2 : Hid (∀ w, (Op.equalIn 10000 23 (.agg (ckA (dblX c))) (.agg (ckA (dblX c)))).run Try.prog w = .ok true w) := fun w => by rw [eq_ck 9998, decide_eq_true rfl]
  have HSCC : Hid ((ckA c).size = 3) := ckE.size _
  have HSCM : Hid ((ckA (measX c tt)).size = 3) := ckE.size _
  have HSCD : Hid ((ckA (dblX c)).size = 3) := ckE.size _
  have HOCM : Hid ((ckA (measX c tt)).all (·.oneCell') = true) := ckE.one _
  have HOCD : Hid ((ckA (dblX c)).all (·.oneCell') = true) := ckE.one _
  generalize rightX c = rr at *
  obtain ⟨CM, hCM⟩ : ∃ CM, ckA (measX c tt) = CM := ⟨_, rfl⟩
  obtain ⟨CD, hCD⟩ : ∃ CD, ckA (dblX c) = CD := ⟨_, rfl⟩
  rw [hCM] at HC3 HC5 HC7 HE1 HSCM HOCM
  rw [hCD] at HC4 HC6 HC8 HE2 HSCD HOCD
  clear hCM hCD hs hd hw
  generalize ckA c = CC at *
  obtain ⟨w1, hw1⟩ : ∃ w1, w.alloc (.cells CC 23) = w1 := ⟨_, rfl⟩
  have HB1 : Hid (Below w.heap.size w w1) := by rw [← hw1]; exact (Below.refl _ _).alloc (Nat.le_refl _) _
  have HX1 : Hid (w1.heap[w.heap.size]? = some (.cells CC 23 (0, 0))) := by rw [← hw1]; exact heap_alloc_new w _
  have HW := Lib.hid hw1
  clear hw1
  have K1 := Lib.hid (all_row HX1.out)
  go_enter Try.func3, Try.ntmps3
  go_upto_region 1 with (fail)
  change Code.wp _ _ _ _ (w.alloc (.cells CC 23))
  rw [HW.out]
  clear HW
  refine wp_region_quiet_below (by kernel_rfl) (by kernel_rfl) ?_
  quiet_step (first | (go_at_call 7; exact Calls.regrown_of (lives_any _)))
  (first | go_big_quiet_step (fail) | quiet_step (fail))
  (first | go_big_quiet_step (fail) | quiet_step (fail))
  (refine wpQuiet_step (fun K hK => ?_); refine quiet_load_at (by kernel_rfl) 23 _ rfl (⟨w.heap.size, 0, none⟩ : Addr) (by first | rfl | (simp [Act.eval, Addr.add_mid])) CC _ K1.out Try.underlying23 rfl (by rw [HSCC.out]; kernel_rfl) ?_; refine hK _ ?_; clear hK K; go_frame)
  quiet_step (first | (go_at_call 8; exact Calls.regrown_of (HC1.out _)))
  (refine wpQuiet_step (fun K hK => ?_); refine quiet_load_at (by kernel_rfl) 23 _ rfl (⟨w.heap.size, 0, none⟩ : Addr) (by first | rfl | (simp [Act.eval, Addr.add_mid])) CC _ K1.out Try.underlying23 rfl (by rw [HSCC.out]; kernel_rfl) ?_; refine hK _ ?_; clear hK K; go_frame)
  quiet_step (first | (go_at_call 9; exact Calls.regrown_of (HC2.out _)))
  (first | go_big_quiet_step (fail) | quiet_step (fail))
  (first | go_big_quiet_step (fail) | quiet_step (fail))
  refine wpQuiet_nil ?_
  intro w9 hw9
  obtain ⟨⟨dq, osq⟩, rfl⟩ := hw9
  have HB2 := Lib.hid ((HB1.out).trans ((below_regrown w1 dq osq).mono (HB1.out).size))
  have HX2 := Lib.hid (old_below HX1.out (below_regrown w1 dq osq) (row_lt HX1.out))
  generalize Sort.grow (redrawn w1 dq) osq = w2 at *
  clear HX1 HB1 K1
  cases rr
  · go_wp2_with (refine wpList_load_row rfl 23 _ rfl w.heap.size rfl 23 CC (0, 0) _ HX2.out Try.underlying23 rfl (by rw [HSCC.out]; kernel_rfl) ?_)
    refine (HC2.out _).mono ?_
    rintro e w3 ⟨rfl, hb3⟩
    have HB3 := Lib.hid (HB2.out.trans (hb3.mono HB2.out.size))
    clear hb3
    go_wp2
    go_ret
    exact ⟨rfl, HB3.out⟩
  · replace HC3 := Lib.hid (HC3.out rfl)
    replace HC4 := Lib.hid (HC4.out rfl)
    replace HC5 := Lib.hid (HC5.out rfl)
    replace HC6 := Lib.hid (HC6.out rfl)
    replace HC7 := Lib.hid (HC7.out rfl)
    replace HC8 := Lib.hid (HC8.out rfl)
    go_wp2_with (refine wpList_load_row rfl 23 _ rfl w.heap.size rfl 23 CC (0, 0) _ HX2.out Try.underlying23 rfl (by rw [HSCC.out]; kernel_rfl) ?_)
    refine (HC2.out _).mono ?_
    rintro e w3 ⟨rfl, hb3⟩
    have HX3 := Lib.hid (old_below HX2.out hb3 (row_lt HX2.out))
    have HB3 := Lib.hid (HB2.out.trans (hb3.mono HB2.out.size))
    clear hb3 HX2 HB2
    go_upto_region 5 with (fail)
    apply wp_region_relyV [5, 7, 6, 8] [5, 6] (NewT w3 5 7 5 23 #[.int .i64 0, .int .i64 0, .int .i64 0] CM 6 8 6 23 #[.int .i64 0, .int .i64 0, .int .i64 0] CD) (RL [Is (.agg CC), Is _, Is (.agg CM), Is (.agg CC), Is (.agg CD), Any, Any, Any, Any]) [false, false, false, false, false, true, true, false, false, false, false, false, false, false, false, false, false, false, false, true, true, true, true, true, false, false, false, false, false, false, false, false, false, false, false, false, false, false, false, false, false, false, false]
    · kernel_rfl
    · kernel_rfl
    · kernel_rfl
    · refine ⟨?_, ?_, ?_, ?_, ?_, ?_, ?_, ?_, ?_, trivial⟩
      · intro L us ev w' hus hC hL hx hnd K hK
        have e2 : ev (.tmp 2) = _ := hx.base 2 (by kernel_rfl)
        have HK := Lib.hid hK
        have HC := Lib.hid hC
        have HL := Lib.hid hL
        have HX := Lib.hid hx
        have HUS := Lib.hid hus
        have HND := Lib.hid hnd
        have hc := hx.cst
        skip
        clear hx hK hC hL hus hnd
        have q1 : ev (.tmp 2) = .pointer (some ⟨w.heap.size, 0, none⟩) := e2
        have hld := run_loadVar_row (P := Try.prog) w' w.heap.size 23 23 CC (0, 0) _ ((HC.out.1.block _ (row_lt HX3.out)).trans HX3.out) Try.underlying23 rfl (by rw [HSCC.out]; kernel_rfl)
        unfold Run
        rw [rely_load 23 _ rfl q1 hld]
        exact HK.out _ _ (.inl ⟨Below.refl _ _, by decide⟩) rfl
      · intro L us ev w' hus hC hL hx hnd K hK
        have e1 : ev (.tmp 1) = _ := hx.base 1 (by kernel_rfl)
        have HK := Lib.hid hK
        have HC := Lib.hid hC
        have HL := Lib.hid hL
        have HX := Lib.hid hx
        have HUS := Lib.hid hus
        have HND := Lib.hid hnd
        have hc := hx.cst
        skip
        clear hx hK hC hL hus hnd
        unfold Run
        simp [execOp, Upon, go_sem, *]
        exact HK.out _ _ (.inl ⟨Below.refl _ _, by decide⟩) rfl
      · intro L us ev w' hus hC hL hx hnd K hK
        have e19 := hx.held 0 _ rfl (by kernel_rfl)
        have e20 := hx.held 1 _ rfl (by kernel_rfl)
        change ev (.tmp 19) = _ at e19
        change ev (.tmp 20) = _ at e20
        have HK := Lib.hid hK
        have HC := Lib.hid hC
        have HL := Lib.hid hL
        have HX := Lib.hid hx
        have HUS := Lib.hid hus
        have HND := Lib.hid hnd
        have hc := hx.cst
        have hf := hx.fn
        clear hx hK hC hL hus hnd
        unfold Run
        simp [execOp, Upon, go_sem, *]
        refine (HC3.out w').mono ?_
        rintro e w2 ⟨rfl, hb⟩
        exact ⟨_, rfl, HK.out _ _ (.inl ⟨hb, by decide⟩) rfl⟩
      · intro L us ev w' hus hC hL hx hnd K hK
        have e2 : ev (.tmp 2) = _ := hx.base 2 (by kernel_rfl)
        have HK := Lib.hid hK
        have HC := Lib.hid hC
        have HL := Lib.hid hL
        have HX := Lib.hid hx
        have HUS := Lib.hid hus
        have HND := Lib.hid hnd
        have hc := hx.cst
        skip
        clear hx hK hC hL hus hnd
        have q1 : ev (.tmp 2) = .pointer (some ⟨w.heap.size, 0, none⟩) := e2
        have hld := run_loadVar_row (P := Try.prog) w' w.heap.size 23 23 CC (0, 0) _ ((HC.out.1.block _ (row_lt HX3.out)).trans HX3.out) Try.underlying23 rfl (by rw [HSCC.out]; kernel_rfl)
        unfold Run
        rw [rely_load 23 _ rfl q1 hld]
        exact HK.out _ _ (.inl ⟨Below.refl _ _, by decide⟩) rfl
      · intro L us ev w' hus hC hL hx hnd K hK
        have e22 := hx.held 3 _ rfl (by kernel_rfl)
        change ev (.tmp 22) = _ at e22
        have HK := Lib.hid hK
        have HC := Lib.hid hC
        have HL := Lib.hid hL
        have HX := Lib.hid hx
        have HUS := Lib.hid hus
        have HND := Lib.hid hnd
        have hc := hx.cst
        have hf := hx.fn
        clear hx hK hC hL hus hnd
        unfold Run
        simp [execOp, Upon, go_sem, *]
        refine (HC4.out w').mono ?_
        rintro e w2 ⟨rfl, hb⟩
        exact ⟨_, rfl, HK.out _ _ (.inl ⟨hb, by decide⟩) rfl⟩
      · intro L us ev w' hus hC hL hx hnd K hK
        have HK := Lib.hid hK
        have HC := Lib.hid hC
        have HL := Lib.hid hL
        have HX := Lib.hid hx
        have HUS := Lib.hid hus
        have HND := Lib.hid hnd
        have hc := hx.cst
        skip
        clear hx hK hC hL hus hnd
        have nst : L 7 = false := Bool.eq_false_iff.2 fun h => by have := HX.out.closed 7 _ 5 rfl h (by kernel_rfl); rw [HL.out] at this; cases this
        unfold Run
        simp [execOp, Upon, go_sem]
        exact HK.out _ _ (.inr ⟨HC.out.alloc1 nst (by decide) (by decide) (by decide) (by decide), fun j hj hlj u hr => rl_mono (Rs := [Is (.agg CC), Is _, Is (.agg CM), Is (.agg CC), Is (.agg CD), Any, Any, Any, Any]) ⟨is_mono _, is_mono _, is_mono _, is_mono _, is_mono _, any_mono, any_mono, any_mono, any_mono, trivial⟩ j u _ _ ((Below.refl _ _).alloc (Nat.le_refl _) _) hr⟩) trivial
      · intro L us ev w' hus hC hL hx hnd K hK
        have HK := Lib.hid hK
        have HC := Lib.hid hC
        have HL := Lib.hid hL
        have HX := Lib.hid hx
        have HUS := Lib.hid hus
        have HND := Lib.hid hnd
        have hc := hx.cst
        skip
        clear hx hK hC hL hus hnd
        have nst : L 8 = false := Bool.eq_false_iff.2 fun h => by have := HX.out.closed 8 _ 6 rfl h (by kernel_rfl); rw [HL.out] at this; cases this
        unfold Run
        simp [execOp, Upon, go_sem]
        exact HK.out _ _ (.inr ⟨HC.out.alloc2 nst (by decide) (by decide) (by decide) (by decide), fun j hj hlj u hr => rl_mono (Rs := [Is (.agg CC), Is _, Is (.agg CM), Is (.agg CC), Is (.agg CD), Any, Any, Any, Any]) ⟨is_mono _, is_mono _, is_mono _, is_mono _, is_mono _, any_mono, any_mono, any_mono, any_mono, trivial⟩ j u _ _ ((Below.refl _ _).alloc (Nat.le_refl _) _) hr⟩) trivial
      · intro L us ev w' hus hC hL hx hnd K hK
        have e5 := hx.held 5 _ rfl (by kernel_rfl)
        have e21 := hx.held 2 _ rfl (by kernel_rfl)
        change (Any : Pred) (ev (.tmp 5)) w' at e5
        change ev (.tmp 21) = _ at e21
        have HK := Lib.hid hK
        have HC := Lib.hid hC
        have HL := Lib.hid hL
        have HX := Lib.hid hx
        have HUS := Lib.hid hus
        have HND := Lib.hid hnd
        have hc := hx.cst
        skip
        clear hx hK hC hL hus hnd
        have qv : ev (.tmp 21) = .agg CM := e21
        have nst : L 7 = false := HL.out
        have lal : L 5 = true := HND.out 5 (by kernel_rfl)
        obtain ⟨g, hg, -⟩ := HC.out.2.1 lal
        have qp : ev (.tmp 5) = .pointer (some ⟨g, 0, none⟩) := (HUS.out 5).trans hg
        obtain ⟨hgh, hnv⟩ := HC.out.store1 (v := undef) lal nst hg (by decide) (by decide) (by decide)
        have hst := run_storeVar_row (P := Try.prog) w' g 23 23 #[.int .i64 0, .int .i64 0, .int .i64 0] CM hgh (by rw [HSCM.out]; kernel_rfl) (by rw [HSCM.out]; rfl) HOCM.out
        unfold Run
        rw [rely_store 23 _ _ rfl qp qv hst]
        refine HK.out _ _ (.inr ⟨hnv, fun j hj hlj u hr => ?_⟩) trivial
        rcases j with _ | _ | _ | _ | _ | _ | _ | _ | _ | j
        · exact hr
        · exact hr
        · exact hr
        · exact hr
        · exact hr
        · exact trivial
        · exact trivial
        · exact absurd rfl hj
        · exact trivial
        · exact trivial
      · intro L us ev w' hus hC hL hx hnd K hK
        have e6 := hx.held 6 _ rfl (by kernel_rfl)
        have e23 := hx.held 4 _ rfl (by kernel_rfl)
        change (Any : Pred) (ev (.tmp 6)) w' at e6
        change ev (.tmp 23) = _ at e23
        have HK := Lib.hid hK
        have HC := Lib.hid hC
        have HL := Lib.hid hL
        have HX := Lib.hid hx
        have HUS := Lib.hid hus
        have HND := Lib.hid hnd
        have hc := hx.cst
        skip
        clear hx hK hC hL hus hnd
        have qv : ev (.tmp 23) = .agg CD := e23
        have nst : L 8 = false := HL.out
        have lal : L 6 = true := HND.out 6 (by kernel_rfl)
        obtain ⟨g, hg, -⟩ := HC.out.2.2.1 lal
        have qp : ev (.tmp 6) = .pointer (some ⟨g, 0, none⟩) := (HUS.out 6).trans hg
        obtain ⟨hgh, hnv⟩ := HC.out.store2 (v := undef) lal nst hg (by decide) (by decide) (by decide)
        have hst := run_storeVar_row (P := Try.prog) w' g 23 23 #[.int .i64 0, .int .i64 0, .int .i64 0] CD hgh (by rw [HSCD.out]; kernel_rfl) (by rw [HSCD.out]; rfl) HOCD.out
        unfold Run
        rw [rely_store 23 _ _ rfl qp qv hst]
        refine HK.out _ _ (.inr ⟨hnv, fun j hj hlj u hr => ?_⟩) trivial
        rcases j with _ | _ | _ | _ | _ | _ | _ | _ | _ | j
        · exact hr
        · exact hr
        · exact hr
        · exact hr
        · exact hr
        · exact trivial
        · exact trivial
        · exact trivial
        · exact absurd rfl hj
        · exact trivial
    · exact rl_mono ⟨is_mono _, is_mono _, is_mono _, is_mono _, is_mono _, any_mono, any_mono, any_mono, any_mono, trivial⟩
    · exact fun L L' us us' w' h1 h2 hg => hg.agree (h1 5 (by simp)) (h1 7 (by simp)) (h2 5 (by simp)) (h1 6 (by simp)) (h1 8 (by simp)) (h2 6 (by simp))
    · exact fun L us w' w'' hb hg => hg.below hb
    · kernel_rfl
    · exact NewT.start
    · simp
    intro us wr hG hH
    obtain ⟨-, -, -, -, -, -, -, -, -, -⟩ := hH
    simp only [fillM]
    obtain ⟨hB9, hN1, hN2, -⟩ := hG
    obtain ⟨gn1, hgn1, hgb1, hvn1⟩ := hN1 rfl
    obtain ⟨gn2, hgn2, hgb2, hvn2⟩ := hN2 rfl
    rw [hgn1, hgn2]
    have HVN1 : Hid (wr.heap[gn1]? = some (.cells CM 23 (0, 0))) := hvn1
    have HVN2 : Hid (wr.heap[gn2]? = some (.cells CD 23 (0, 0))) := hvn2
    have HGB1 := Lib.hid hgb1
    have HGB2 := Lib.hid hgb2
    have HB9 := Lib.hid hB9
    clear hB9 hN1 hN2 hgb1 hgb2 hvn1 hvn2
    generalize us 19 = v19
    generalize us 20 = v20
    generalize us 21 = v21
    generalize us 22 = v22
    generalize us 23 = v23
    clear hgn1 hgn2
    have HXR := Lib.hid (old_below HX3.out HB9.out (row_lt HX3.out))
    have HBR := Lib.hid (HB3.out.trans (HB9.out.mono HB3.out.size))
    have K2 := Lib.hid (all_row HXR.out)
    have K5 := Lib.hid (all_row HVN1.out)
    have K6 := Lib.hid (all_row HVN2.out)
    have heq1 := HE1.out
    have heq2 := HE2.out
    go_upto_region 6 with (fail)
    refine wp_region_quiet_below (by kernel_rfl) (by kernel_rfl) ?_
    (refine wpQuiet_step (fun K hK => ?_); refine quiet_load_at (by kernel_rfl) 23 _ rfl (⟨gn1, 0, none⟩ : Addr) (by first | rfl | (simp [Act.eval, Addr.add_mid])) CM _ K5.out Try.underlying23 rfl (by rw [HSCM.out]; kernel_rfl) ?_; refine hK _ ?_; clear hK K; go_frame)
    (refine wpQuiet_step (fun K hK => ?_); refine quiet_load_at (by kernel_rfl) 23 _ rfl (⟨w.heap.size, 0, none⟩ : Addr) (by first | rfl | (simp [Act.eval, Addr.add_mid])) CC _ K2.out Try.underlying23 rfl (by rw [HSCC.out]; kernel_rfl) ?_; refine hK _ ?_; clear hK K; go_frame)
    (first | go_big_quiet_step (fail) | quiet_step (fail))
    quiet_step (first | (go_at_call 12; exact Calls.regrown_of (HC5.out _)))
    (first | go_big_quiet_step (fail) | quiet_step (fail))
    (first | go_big_quiet_step (fail) | quiet_step (fail))
    (refine wpQuiet_step (fun K hK => ?_); refine quiet_load_at (by kernel_rfl) 23 _ rfl (⟨gn2, 0, none⟩ : Addr) (by first | rfl | (simp [Act.eval, Addr.add_mid])) CD _ K6.out Try.underlying23 rfl (by rw [HSCD.out]; kernel_rfl) ?_; refine hK _ ?_; clear hK K; go_frame)
    (refine wpQuiet_step (fun K hK => ?_); refine quiet_load_at (by kernel_rfl) 23 _ rfl (⟨w.heap.size, 0, none⟩ : Addr) (by first | rfl | (simp [Act.eval, Addr.add_mid])) CC _ K2.out Try.underlying23 rfl (by rw [HSCC.out]; kernel_rfl) ?_; refine hK _ ?_; clear hK K; go_frame)
    quiet_step (first | (go_at_call 13; exact Calls.regrown_of (HC6.out _)))
    (first | go_big_quiet_step (fail) | quiet_step (fail))
    (first | go_big_quiet_step (fail) | quiet_step (fail))
    (first | go_big_quiet_step (fail) | quiet_step (fail))
    (refine wpQuiet_step (fun K hK => ?_); refine quiet_load_at (by kernel_rfl) 23 _ rfl (⟨gn1, 0, none⟩ : Addr) (by first | rfl | (simp [Act.eval, Addr.add_mid])) CM _ K5.out Try.underlying23 rfl (by rw [HSCM.out]; kernel_rfl) ?_; refine hK _ ?_; clear hK K; go_frame)
    quiet_step (first | (go_at_call 8; exact Calls.regrown_of (HC7.out _)))
    (first | go_big_quiet_step (fail) | quiet_step (fail))
    (first | go_big_quiet_step (fail) | quiet_step (fail))
    (refine wpQuiet_step (fun K hK => ?_); refine quiet_load_at (by kernel_rfl) 23 _ rfl (⟨gn2, 0, none⟩ : Addr) (by first | rfl | (simp [Act.eval, Addr.add_mid])) CD _ K6.out Try.underlying23 rfl (by rw [HSCD.out]; kernel_rfl) ?_; refine hK _ ?_; clear hK K; go_frame)
    quiet_step (first | (go_at_call 8; exact Calls.regrown_of (HC8.out _)))
    (first | go_big_quiet_step (fail) | quiet_step (fail))
    (first | go_big_quiet_step (fail) | quiet_step (fail))
    refine wpQuiet_nil ?_
    intro w9 hw9
    obtain ⟨⟨dq, osq⟩, rfl⟩ := hw9
    have HB8 := Lib.hid ((HBR.out).trans ((below_regrown wr dq osq).mono (HBR.out).size))
    generalize Sort.grow (redrawn wr dq) osq = w8 at *
    go_wp2
    go_ret
    exact ⟨rfl, HB8.out⟩
end Go.Proofs.Ytafpnmmkaanjaaa
