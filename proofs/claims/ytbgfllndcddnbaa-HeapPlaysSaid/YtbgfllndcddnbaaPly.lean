/-
  The law HeapPlays: every int and every slice of ops. No condition.
-/
import Derived.Test.YtbgfllndcddnbaaPlm
namespace Go.Proofs.Ytbgfllndcddnbaa
open Go.RowKit

set_option maxRecDepth 100000 in
set_option maxHeartbeats 8000000 in
theorem plays_any (p : Int) (A : Option Addr) (n c : Nat) (l : List Opp) (w : World) (h : OpsT w w.heap.size A l) (hl : l.length = n) (hn : n ≤ 140737488351232) :
    Calls Try.prog 3 #[.int .i64 p, .slice A n c] w fun e w' => e = .returned (.bool true) ∧ Below w.heap.size w w' := by
  have HOPS := Lib.hid h
  have HLN := Lib.hid hl
  have HFT := Lib.hid (fun w' (hb : Below w.heap.size w w') => fits_any A n c w.heap.size l w' (h.below hb (Nat.le_refl _)) hb.size hl hn)
  clear h hl
  go_enter Try.func3, Try.ntmps3
  go_wp2_with fail
  refine (lives_any _).mono ?_
  rintro e w1 ⟨rfl, hb1⟩
  have HB1 := Lib.hid hb1
  clear hb1
  go_wp2_with fail
  refine (HFT.out _ HB1.out).mono ?_
  rintro e w2 ⟨rfl, hb2⟩
  have HB2 := Lib.hid (HB1.out.trans (hb2.mono HB1.out.size))
  clear hb2
  cases hft : fitsB l
  · clear hft
    go_wp2_with fail
    refine (lives_any _).mono ?_
    rintro e w3 ⟨rfl, hb3⟩
    have HB3 := Lib.hid (HB2.out.trans (hb3.mono HB2.out.size))
    clear hb3
    go_wp2
    go_ret
    exact ⟨rfl, HB3.out⟩
  · have hfl : n ≤ 60 ∧ ∀ o ∈ l, o.data.length ≤ 300 := by
      unfold fitsB at hft
      simp only [Bool.and_eq_true, List.all_eq_true, decide_eq_true_eq] at hft
      exact ⟨by rw [← HLN.out]; exact hft.2, hft.1⟩
    have hn60 := hfl.1
    have HDAT := Lib.hid hfl.2
    clear hft hfl hn
    by_cases hp1 : 1 ≤ p ∧ p ≤ 64
    case neg =>
      go_wp2_with fail
      refine (new_not p w2 hp1).mono ?_
      rintro e w3 ⟨rfl, hb3⟩
      have HX := Lib.hid (heap_alloc_new w3 (.cells #[.slice none 0 0, .slice none 0 0, .slice none 0 0] 29))
      have HB3 : Hid (Below w.heap.size w (w3.alloc (.cells #[.slice none 0 0, .slice none 0 0, .slice none 0 0] 29))) := (HB2.out.trans (hb3.mono HB2.out.size)).alloc (by have := HB2.out.size; have := hb3.size; omega) _
      clear hb3
      go_upto_region 4 with (refine wpList_store_new rfl 29 _ _ rfl w3 #[.slice none 0 0, .slice none 0 0, .slice none 0 0] #[.slice none 0 0, .slice none 0 0, .slice none 0 0] rfl rfl (by kernel_rfl) rfl (by rfl) ?_)
      generalize w3.alloc (.cells #[.slice none 0 0, .slice none 0 0, .slice none 0 0] 29) = w4 at HX HB3 ⊢
      generalize w3.heap.size = N at HX ⊢
      obtain ⟨x0, x1, x2⟩ := three_cells HX.out
      by_cases q1 : p < 1
      · go_wp2
        go_ret
        exact ⟨rfl, HB3.out⟩
      · have q2 : 64 < p := by omega
        go_wp2
        go_ret
        exact ⟨rfl, HB3.out⟩
    obtain ⟨q, rfl⟩ : ∃ q : Nat, p = (q : Int) := ⟨p.toNat, by omega⟩
    have hq : 1 ≤ q ∧ q ≤ 64 := by omega
    obtain ⟨hq1, hq2⟩ := hq
    have hq3 : ¬ (q : Int) < 1 := by omega
    have hq4 : ¬ (64 : Int) < (q : Int) := by omega
    clear hp1
    go_wp2_with fail
    refine (new_any q w2 hq1 hq2).mono ?_
    rintro e w3 ⟨v, rfl, ⟨y1, y2, y3, rfl, hp⟩, hb3⟩
    have HO3 := Lib.hid hp.ones
    have HV3 := Lib.hid (var_new hp)
    have HB3 : Hid (Below w.heap.size w (w3.alloc (.cells #[y1, y2, y3] 29))) := (HB2.out.trans (hb3.mono HB2.out.size)).alloc (by have := HB2.out.size; have := hb3.size; omega) _
    have HNW : Hid (w.heap.size ≤ w3.heap.size) := Nat.le_trans HB2.out.size hb3.size
    clear hp hb3
    go_upto_region 4 with (refine wpList_store_new rfl 29 _ _ rfl w3 #[.slice none 0 0, .slice none 0 0, .slice none 0 0] #[y1, y2, y3] rfl rfl (by kernel_rfl) rfl HO3.out ?_)
    generalize w3.alloc (.cells #[y1, y2, y3] 29) = w4 at HV3 HB3 ⊢
    generalize w3.heap.size = N at HV3 HNW ⊢
    have HR3 : Hid (RightH (List.replicate (64 * q) 0) [] (List.replicate q false)) := RightH.new hq1 hq2
    go_wp2_with fail
    refine (refnew_any q w4 hq1 hq2).mono ?_
    rintro e w5 ⟨v, rfl, ⟨u1, u2, u3, rfl, hr⟩, hb5⟩
    have HO5 := Lib.hid hr.ones
    have HVR5 := Lib.hid (varr_new hr)
    have HV5 := Lib.hid ((HV3.out.below hb5).alloc (.cells #[u1, u2, u3] 35))
    have HNM : Hid (N < w5.heap.size) := (HV3.out.below hb5).lt
    have HB5 : Hid (Below w.heap.size w (w5.alloc (.cells #[u1, u2, u3] 35))) := (HB3.out.trans (hb5.mono HB3.out.size)).alloc (by have := HB3.out.size; have := hb5.size; omega) _
    clear hr hb5 HV3 HO3
    go_upto_region 7 with (refine wpList_store_new rfl 35 _ _ rfl w5 #[.string ⟨#[]⟩, .slice none 0 0, .slice none 0 0] #[u1, u2, u3] rfl rfl (by kernel_rfl) rfl HO5.out ?_)
    generalize w5.alloc (.cells #[u1, u2, u3] 35) = w6 at HVR5 HV5 HB5 ⊢
    generalize w5.heap.size = M at HVR5 HNM ⊢
    go_wp2
    go_loopw [48] (fun t48 wr => ∃ (k : Nat) (B : List UInt8) (L : List Bk) (D : List Bool), k ≤ n ∧ t48 = .int .i64 (k : Int) ∧ Hid (VarH N B L D wr) ∧ Hid (VarR M B L D wr) ∧ Hid (RightH B L D) ∧ Hid (Below w.heap.size w wr)) (fun t48 _ => n - (intOf t48).toNat)
    case atStart => exact ⟨0, _, _, _, Nat.zero_le _, rfl, HV5, HVR5, HR3, HB5⟩
    case round =>
      obtain ⟨k, B, L, D, hk, rfl, HVAR, HVRR, HR, HBEL⟩ := hrel
      by_cases hlt : k < n
      · obtain ⟨o, ho⟩ : ∃ o, l[k]? = some o := ⟨_, List.getElem?_eq_getElem (by rw [HLN.out]; exact hlt)⟩
        obtain ⟨ad, A', cc, rfl, -, hcs, hrd, hAn, hdc, hcc, hik, hia, hin⟩ := (HOPS.out k o ho).below HBEL.out (Nat.le_refl _)
        have HEL := Lib.hid hcs
        have HIA := Lib.hid hia
        have HIN := Lib.hid hin
        have HAN := Lib.hid hAn
        have HDL : Hid (o.data.length ≤ 300) := HDAT.out o (List.mem_of_getElem? ho)
        obtain ⟨dm, hdm⟩ : ∃ dm, o.data.length = dm := ⟨_, rfl⟩
        rw [hdm] at HEL HDL
        have HDM := Lib.hid hdm
        obtain ⟨v1, v2, v3, hx, hp⟩ := HVAR.out
        obtain ⟨u1, u2, u3, hxr, hr⟩ := HVRR.out
        have HX := Lib.hid (old_alloc hx (.cells #[.int .i64 o.kind, .int .i64 o.at_, .int .i64 o.n, .slice A' dm cc, .bool o.short] 38))
        have HP := Lib.hid (hp.alloc (.cells #[.int .i64 o.kind, .int .i64 o.at_, .int .i64 o.n, .slice A' dm cc, .bool o.short] 38))
        have HXR := Lib.hid (old_alloc hxr (.cells #[.int .i64 o.kind, .int .i64 o.at_, .int .i64 o.n, .slice A' dm cc, .bool o.short] 38))
        have HV := Lib.hid (hr.alloc (.cells #[.int .i64 o.kind, .int .i64 o.at_, .int .i64 o.n, .slice A' dm cc, .bool o.short] 38))
        have HY := Lib.hid (heap_alloc_new wr (.cells #[.int .i64 o.kind, .int .i64 o.at_, .int .i64 o.n, .slice A' dm cc, .bool o.short] 38))
        have HBW := Lib.hid (HBEL.out.alloc HBEL.out.size (.cells #[.int .i64 o.kind, .int .i64 o.at_, .int .i64 o.n, .slice A' dm cc, .bool o.short] 38))
        have HRD2 := Lib.hid (hrd.alloc HBEL.out.size (.cells #[.int .i64 o.kind, .int .i64 o.at_, .int .i64 o.n, .slice A' dm cc, .bool o.short] 38))
        have HNL : Hid (w.heap.size ≤ N) := HNW.out
        unfold opC at HEL
        obtain ⟨r, hr8, hr9⟩ := u64_rem o.kind 8 (by decide) (by decide)
        change (IntKind.u64.wrap o.kind).tmod 8 = (r : Int) at hr8
        have HR8 := Lib.hid hr8
        clear hcs hrd hAn hdc hcc hia hin hx hp hxr hr ho hdm hik hr8
        go_upto_region 10 with (first | refine wpList_load_at rfl 38 _ rfl (ad.add (k * 5)) rfl [.int .i64 o.kind, .int .i64 o.at_, .int .i64 o.n, .slice A' dm cc, .bool o.short] _ HEL.out Try.underlying38 rfl (by kernel_rfl) ?_)
        generalize wr.alloc (.cells #[.int .i64 o.kind, .int .i64 o.at_, .int .i64 o.n, .slice A' dm cc, .bool o.short] 38) = wa at HX HY HBW HP HXR HV HRD2 ⊢
        generalize wr.heap.size = b5 at HY ⊢
        obtain ⟨B2, L2, D2, hst⟩ : ∃ B2 L2 D2, stepO r o.at_ o.n o.data o.short (B, L, D) = (B2, L2, D2) := ⟨_, _, _, rfl⟩
        have hsa := step_any o.kind o.at_ o.n A' dm cc w.heap.size r o.data o.short wa HP.out.shut HV.out.shut HR.out HIA.out HIN.out HDM.out HDL.out HAN.out HRD2.out HBW.out.size hr9 HR8.out
        have hR2 := right_step HR.out r o.at_ o.n o.data o.short
        rw [hst] at hsa hR2
        have HSA := Lib.hid hsa
        have HR2 := Lib.hid hR2
        clear hsa hR2 hst HEL
        go_wp2_with (first | refine wpList_load_row rfl 29 _ rfl N rfl 29 #[v1, v2, v3] (0, 0) _ HX.out Try.underlying29 rfl (by kernel_rfl) ?_ | refine wpList_load_row rfl 35 _ rfl M rfl 35 #[u1, u2, u3] (0, 0) _ HXR.out Try.underlying35 rfl (by kernel_rfl) ?_ | refine wpList_load_row rfl 38 _ rfl b5 rfl 38 #[.int .i64 o.kind, .int .i64 o.at_, .int .i64 o.n, .slice A' dm cc, .bool o.short] (0, 0) _ HY.out Try.underlying38 rfl (by kernel_rfl) ?_)
        refine HSA.out.mono ?_
        rintro e wb ⟨v', x', rfl, ⟨z1, z2, z3, rfl, hpb⟩, ⟨s1, s2, s3, rfl, hrb⟩, hbb⟩
        have HOZ := Lib.hid hpb.ones
        have HOS := Lib.hid hrb.ones
        obtain ⟨Ya, la, ca, Yb, lb, cb, Yc, lc, cc', rfl, rfl, rfl⟩ := hpb.forms_
        obtain ⟨XS, Xb, kb, xb, Xc, kc, xc, rfl, rfl, rfl⟩ := hrb.forms_
        have h1 : ((wb.alloc (.cells #[.slice none 0 0, .slice none 0 0, .slice none 0 0] 29)).alloc (.cells #[.string ⟨#[]⟩, .slice none 0 0, .slice none 0 0] 35)).heap[wb.heap.size]? = some (.cells #[.slice none 0 0, .slice none 0 0, .slice none 0 0] 29 (0, 0)) := old_alloc (heap_alloc_new wb _) _
        have h2 : (((wb.alloc (.cells #[.slice none 0 0, .slice none 0 0, .slice none 0 0] 29)).alloc (.cells #[.string ⟨#[]⟩, .slice none 0 0, .slice none 0 0] 35)).setRow wb.heap.size #[.slice Ya la ca, .slice Yb lb cb, .slice Yc lc cc']).heap[wb.heap.size + 1]? = some (.cells #[.string ⟨#[]⟩, .slice none 0 0, .slice none 0 0] 35 (0, 0)) := (setRow_other _ _ _ _ (by omega)).trans (new_at1 wb _ _)
        have hb8 : Below wb.heap.size wb ((((wb.alloc (.cells #[.slice none 0 0, .slice none 0 0, .slice none 0 0] 29)).alloc (.cells #[.string ⟨#[]⟩, .slice none 0 0, .slice none 0 0] 35)).setRow wb.heap.size #[.slice Ya la ca, .slice Yb lb cb, .slice Yc lc cc']).setRow (wb.heap.size + 1) #[.string XS, .slice Xb kb xb, .slice Xc kc xc]) := below_setRow (below_setRow (((Below.refl _ _).alloc (Nat.le_refl _) _).alloc (by simp) _) (Nat.le_refl _) _) (Nat.le_succ _) _
        have HH1 := Lib.hid h1
        have HH2 := Lib.hid h2
        have HXn := Lib.hid ((setRow_other _ (wb.heap.size + 1) wb.heap.size #[.string XS, .slice Xb kb xb, .slice Xc kc xc] (by omega)).trans (setRow_heap _ _ _ #[.slice Ya la ca, .slice Yb lb cb, .slice Yc lc cc'] _ _ h1))
        have HUn := Lib.hid (setRow_heap _ _ _ #[.string XS, .slice Xb kb xb, .slice Xc kc xc] _ _ h2)
        have hbc : Below wa.heap.size wa ((((wb.alloc (.cells #[.slice none 0 0, .slice none 0 0, .slice none 0 0] 29)).alloc (.cells #[.string ⟨#[]⟩, .slice none 0 0, .slice none 0 0] 35)).setRow wb.heap.size #[.slice Ya la ca, .slice Yb lb cb, .slice Yc lc cc']).setRow (wb.heap.size + 1) #[.string XS, .slice Xb kb xb, .slice Xc kc xc]) := hbb.trans (hb8.mono hbb.size)
        have HPn := Lib.hid ((hpb.below hb8).wide (Nat.zero_le _))
        have HVn := Lib.hid (hrb.below hb8)
        have HXo := HX
        have HXRo := HXR
        have HX := Lib.hid (old_below HX.out hbc (row_lt HX.out))
        have HXR := Lib.hid (old_below HXR.out hbc (row_lt HXR.out))
        have HP := Lib.hid (HP.out.below hbc)
        have HV := Lib.hid (HV.out.below hbc)
        have HBW := Lib.hid (HBW.out.trans (hbc.mono HBW.out.size))
        have HNP : Hid (N < wb.heap.size ∧ M < wb.heap.size) := ⟨row_lt (old_below HXo.out hbb (row_lt HXo.out)), row_lt (old_below HXRo.out hbb (row_lt HXRo.out))⟩
        clear HXo HXRo h1 h2 hb8 hbc hpb hrb hbb HRD2 HY HSA
        go_upto_region 11 with (first | refine wpList_store_row rfl 29 _ _ rfl wb.heap.size #[.slice Ya la ca, .slice Yb lb cb, .slice Yc lc cc'] rfl rfl 29 _ HH1.out (by kernel_rfl) rfl HOZ.out ?_ | refine wpList_store_row rfl 35 _ _ rfl (wb.heap.size + 1) #[.string XS, .slice Xb kb xb, .slice Xc kc xc] rfl rfl 35 _ HH2.out (by kernel_rfl) rfl HOS.out ?_)
        generalize (((wb.alloc (.cells #[.slice none 0 0, .slice none 0 0, .slice none 0 0] 29)).alloc (.cells #[.string ⟨#[]⟩, .slice none 0 0, .slice none 0 0] 35)).setRow wb.heap.size #[.slice Ya la ca, .slice Yb lb cb, .slice Yc lc cc']).setRow (wb.heap.size + 1) #[.string XS, .slice Xb kb xb, .slice Xc kc xc] = wc at HX HXR HP HV HXn HUn HPn HVn HBW ⊢
        clear HH1 HH2
        generalize wb.heap.size = P at HXn HUn HNP ⊢
        have hlk := reflike_any wc HV.out.shut HP.out.shut HR.out
        have HLK := Lib.hid hlk
        clear hlk
        obtain ⟨p0, p1, p2⟩ := three_cells HX.out
        obtain ⟨q0, q1, q2⟩ := three_cells HXR.out
        go_wp2_with fail
        clear p0 p1 p2 q0 q1 q2
        refine HLK.out.mono ?_
        rintro e wd ⟨rfl, hbd⟩
        clear HLK
        have HX := Lib.hid (old_below HX.out hbd (row_lt HX.out))
        have HXR := Lib.hid (old_below HXR.out hbd (row_lt HXR.out))
        have HXn := Lib.hid (old_below HXn.out hbd (row_lt HXn.out))
        have HUn := Lib.hid (old_below HUn.out hbd (row_lt HUn.out))
        have HP := Lib.hid (HP.out.below hbd)
        have HV := Lib.hid (HV.out.below hbd)
        have HPn := Lib.hid (HPn.out.below hbd)
        have HVn := Lib.hid (HVn.out.below hbd)
        have HBW := Lib.hid (HBW.out.trans (hbd.mono HBW.out.size))
        clear hbd
        have hlk := reflike_any wd HVn.out.shut HPn.out.shut HR2.out
        have HLK := Lib.hid hlk
        clear hlk
        obtain ⟨p0, p1, p2⟩ := three_cells HXn.out
        obtain ⟨q0, q1, q2⟩ := three_cells HUn.out
        go_wp2_with fail
        clear p0 p1 p2 q0 q1 q2
        refine HLK.out.mono ?_
        rintro e we ⟨rfl, hbe⟩
        clear HLK
        have HX := Lib.hid (old_below HX.out hbe (row_lt HX.out))
        have HXR := Lib.hid (old_below HXR.out hbe (row_lt HXR.out))
        have HXn := Lib.hid (old_below HXn.out hbe (row_lt HXn.out))
        have HUn := Lib.hid (old_below HUn.out hbe (row_lt HUn.out))
        have HP := Lib.hid (HP.out.below hbe)
        have HV := Lib.hid (HV.out.below hbe)
        have HPn := Lib.hid (HPn.out.below hbe)
        have HVn := Lib.hid (HVn.out.below hbe)
        have HBW := Lib.hid (HBW.out.trans (hbe.mono HBW.out.size))
        clear hbe
        have HRT := Lib.hid (right_hp (w := we) HPn.out.shut HR2.out)
        obtain ⟨p0, p1, p2⟩ := three_cells HXn.out
        go_wp2_with fail
        clear p0 p1 p2
        refine HRT.out.mono ?_
        rintro e wf ⟨rfl, hbf⟩
        clear HRT
        have HX := Lib.hid (old_below HX.out hbf (row_lt HX.out))
        have HXR := Lib.hid (old_below HXR.out hbf (row_lt HXR.out))
        have HXn := Lib.hid (old_below HXn.out hbf (row_lt HXn.out))
        have HUn := Lib.hid (old_below HUn.out hbf (row_lt HUn.out))
        have HP := Lib.hid (HP.out.below hbf)
        have HV := Lib.hid (HV.out.below hbf)
        have HPn := Lib.hid (HPn.out.below hbf)
        have HVn := Lib.hid (HVn.out.below hbf)
        have HBW := Lib.hid (HBW.out.trans (hbf.mono HBW.out.size))
        clear hbf
        obtain ⟨a0, a1, a2⟩ := three_cells HXn.out
        obtain ⟨b0, b1, b2⟩ := three_cells HUn.out
        obtain ⟨p0, p1, p2⟩ := three_cells HX.out
        obtain ⟨q0, q1, q2⟩ := three_cells HXR.out
        have g0 := frozen_of_row wf N 0 _ _ HX.out
        have g1 := frozen_of_row wf N 1 _ _ HX.out
        have g2 := frozen_of_row wf N 2 _ _ HX.out
        have k0 := frozen_of_row wf M 0 _ _ HXR.out
        have k1 := frozen_of_row wf M 1 _ _ HXR.out
        have k2 := frozen_of_row wf M 2 _ _ HXR.out
        have hnp := HNP.out
        have hnm := HNM.out
        have d1 : ¬ N = P := by omega
        have d2 : ¬ N = P + 1 := by omega
        have d3 : ¬ M = P := by omega
        have d4 : ¬ M = P + 1 := by omega
        have d5 : ¬ P = N := by omega
        have d6 : ¬ P + 1 = N := by omega
        have d7 : ¬ P = M := by omega
        have d8 : ¬ P + 1 = M := by omega
        have d9 : ¬ N = M := by omega
        have d0 : ¬ M = N := by omega
        have HEND := Lib.hid (two_end d9 HPn.out HVn.out HX.out HXR.out HBW.out HNW.out (by have := HNW.out; omega))
        go_wp2
        go_region
        all_goals first
          | (rw [row3 HX.out, row3 (w := wf.setRow N _) ((setRow_other _ _ _ _ d0).trans HXR.out)]
             go_wp2
             go_roundw
             case rel => exact ⟨k + 1, B2, L2, D2, by omega, by go_num, HEND.out.1.1.below (below_drewN' (Below.refl _ _) 1), HEND.out.1.2.1.below (below_drewN' (Below.refl _ _) 1), HR2, below_drewN' HEND.out.1.2.2 1⟩
             case measure => simp [intOf]; omega)
          | (rw [row3 HXR.out, row3 (w := wf.setRow M _) ((setRow_other _ _ _ _ d9).trans HX.out)]
             go_wp2
             go_roundw
             case rel => exact ⟨k + 1, B2, L2, D2, by omega, by go_num, HEND.out.2.1.below (below_drewN' (Below.refl _ _) 1), HEND.out.2.2.1.below (below_drewN' (Below.refl _ _) 1), HR2, below_drewN' HEND.out.2.2.2 1⟩
             case measure => simp [intOf]; omega)
      · obtain rfl : n = k := by omega
        obtain ⟨v1, v2, v3, hx, hp⟩ := HVAR.out
        obtain ⟨u1, u2, u3, hxr, hr⟩ := HVRR.out
        obtain ⟨nk, hnk⟩ : ∃ k, L.length = k := ⟨_, rfl⟩
        obtain ⟨nd, hnd⟩ : ∃ k, D.length = k := ⟨_, rfl⟩
        obtain ⟨A4, c4, A5, c5, rfl, rfl, rfl⟩ := hr.forms hnk hnd
        have hnd64 : nd ≤ 64 := by rw [← hnd]; exact HR.out.most
        have hwr := written_any wr hp.shut (by have := HR.out.most; omega)
        obtain ⟨J, hJ⟩ : ∃ J, (pagesTo D D.length).length = J := ⟨_, rfl⟩
        have hJ2 : J ≤ nd := by rw [← hJ, ← hnd]; exact pages_le D D.length
        rw [hJ] at hwr
        have HJ := Lib.hid hJ
        have HND := Lib.hid hnd
        have HWR := Lib.hid hwr
        have HX := Lib.hid hx
        have HXR := Lib.hid hxr
        have HP := Lib.hid hp
        have HV := Lib.hid hr
        clear hx hxr hp hr hnk hnd hwr hJ HOPS HDAT
        go_wp2_with (first | refine wpList_load_row rfl 29 _ rfl N rfl 29 #[v1, v2, v3] (0, 0) _ HX.out Try.underlying29 rfl (by kernel_rfl) ?_)
        refine HWR.out.mono ?_
        rintro e wp ⟨u, rfl, hou, hbp⟩
        obtain ⟨Au, cu, rfl, hJc, -, -⟩ := ownk_form hou
        have HOU := Lib.hid hou
        have HX := Lib.hid (old_below HX.out hbp (row_lt HX.out))
        have HXR := Lib.hid (old_below HXR.out hbp (row_lt HXR.out))
        have HP := Lib.hid (HP.out.below hbp)
        have HV := Lib.hid (HV.out.below hbp)
        have HBP := Lib.hid (HBEL.out.trans (hbp.mono HBEL.out.size))
        have hv3 := HV.out.2.2
        rw [HND.out] at hv3
        have HV3 := Lib.hid hv3
        clear hou hbp hv3 HWR
        obtain ⟨q0, q1, q2⟩ := three_cells HXR.out
        go_wp2
        clear q0 q1 q2
        go_loopw [87, 14] (fun t87 t14 wz => ∃ (j i : Nat), j ≤ nd ∧ i ≤ j ∧ t87 = .int .i64 (j : Int) ∧ t14 = .int .i64 (i : Int) ∧ Hid ((pagesTo D j).length = i) ∧ wp = wz) (fun t87 _ _ => nd - (intOf t87).toNat)
        case atStart => exact ⟨0, 0, Nat.zero_le _, Nat.le_refl _, rfl, rfl, Lib.hid rfl, rfl⟩
        case round =>
          obtain ⟨j, i, hj, hij, rfl, rfl, HI, rfl⟩ := hrel
          by_cases hlt2 : j < nd
          · obtain ⟨d, hd⟩ : ∃ d, D[j]? = some d := ⟨_, List.getElem?_eq_getElem (by rw [HND.out]; exact hlt2)⟩
            obtain ⟨g3, cq, cur, e3, -, -, hgc3, -⟩ := ownk_some HV3.out (by omega)
            injection e3 with e3 _ e4
            subst e3 e4
            have p0 := own_cell HV3.out (j := j) (u := .bool d) (by simp [tfs, hd])
            have hst := pages_step D j d hd
            cases d
            · have HI2 : Hid ((pagesTo D (j + 1)).length = i) := by show _ = _; rw [hst, if_neg (by decide), List.append_nil, HI.out]
              clear hst hd
              go_wp2
              go_roundw
              case rel => exact ⟨j + 1, i, by omega, by omega, by go_num, by go_num, HI2, trivial⟩
              case measure => simp [intOf]; omega
            · have HI2 : Hid ((pagesTo D (j + 1)).length = i + 1) := by show _ = _; rw [hst, if_pos rfl, List.length_append, HI.out]; rfl
              obtain ⟨hat, hlt3⟩ := pages_at D j hd
              rw [HI.out] at hat hlt3
              rw [HJ.out] at hlt3
              obtain ⟨gu, cq, cur, eu, -, -, hgcu, -⟩ := ownk_some HOU.out (by omega)
              injection eu with eu _ eu2
              subst eu eu2
              have q0 := own_cell HOU.out (j := i) (u := .int .i64 (j : Int)) (by simp [ints, hat])
              have hi1 : (i : Int) < (J : Int) := by omega
              clear hst hd hat
              go_wp2
              go_roundw
              case rel => exact ⟨j + 1, i + 1, by omega, by omega, by go_num, by go_num, HI2, trivial⟩
              case measure => simp [intOf]; omega
          · obtain rfl : nd = j := by omega
            obtain rfl : J = i := by rw [← HJ.out, ← HI.out, HND.out]
            have hby := HR.out.bytes
            have hmy := HR.out.many
            have hdy := HR.out.most
            have HCL := Lib.hid (fun W (hb : Below wp.heap.size wp W) => clone_any B L D 0 (.agg #[v1, v2, v3]) W (HP.out.below hb).shut (by omega) (by omega) (by omega))
            obtain ⟨x0, x1, x2⟩ := three_cells HX.out
            obtain ⟨m0, m1, m2⟩ := three_cells HXR.out
            clear hby hmy hdy
            go_upto_region 25 with (fail)
            go_region_with (first
              | (go_at_call 17; refine (HCL.out _ (by first | exact Below.refl _ _ | exact below_drewN' (Below.refl _ _) 1 | exact below_drewN' (Below.refl _ _) 2)).mono ?_; rintro e wq ⟨vc, rfl, ⟨t1, t2, t3, rfl, hpc⟩, hbc⟩; have hbq : Below wp.heap.size wp wq := Below.trans (by first | exact Below.refl _ _ | exact below_drewN' (Below.refl _ _) 1 | exact below_drewN' (Below.refl _ _) 2) (hbc.mono (Nat.le_refl _)); have HPC := Lib.hid hpc; have HBQ := Lib.hid hbq; obtain ⟨n0, n1, n2⟩ := three_cells (old_below HXR.out hbq (row_lt HXR.out)); clear hpc hbc hbq)
              | (go_at_call 14; refine (reflike_any _ (HV.out.below HBQ.out).shut HPC.out.shut HR.out).mono ?_; rintro e wz ⟨rfl, hbz⟩; have HBZ := Lib.hid (HBP.out.trans ((HBQ.out.trans (hbz.mono HBQ.out.size)).mono HBP.out.size)); clear hbz))
            all_goals go_wp2
            all_goals go_ret
            all_goals exact ⟨rfl, HBZ.out⟩
end Go.Proofs.Ytbgfllndcddnbaa
