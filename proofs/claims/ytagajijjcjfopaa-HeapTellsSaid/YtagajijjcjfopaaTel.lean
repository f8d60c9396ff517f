/-
  The law HeapTells: every two slices of ops. No condition.
-/
import Derived.Test.YtagajijjcjfopaaTlc
import Derived.Test.YtagajijjcjfopaaStg
namespace Go.Proofs.Ytagajijjcjfopaa
open Go.RowKit

theorem stores_hp {base : Nat} {B : List UInt8} {L : List Bk} {D : List Bool} {w : World} {g : Nat} {t : TypeId} {u0 u1 u2 v0 v1 v2 : Value} (hv : HpV base B L D w v0 v1 v2) (h : w.heap[g]? = some (.cells #[u0, u1, u2] t (0, 0))) :
    (store ⟨g, 0, none⟩ v0).run Try.prog w = .ok () (w.setCell ⟨g, 0, none⟩ v0) ∧ (store ⟨g, 1, none⟩ v1).run Try.prog (w.setCell ⟨g, 0, none⟩ v0) = .ok () ((w.setCell ⟨g, 0, none⟩ v0).setCell ⟨g, 1, none⟩ v1) ∧
      (store ⟨g, 2, none⟩ v2).run Try.prog ((w.setCell ⟨g, 0, none⟩ v0).setCell ⟨g, 1, none⟩ v1) = .ok () (((w.setCell ⟨g, 0, none⟩ v0).setCell ⟨g, 1, none⟩ v1).setCell ⟨g, 2, none⟩ v2) := by
  have r0 := heap_setCell_same _ _ 0 _ _ v0 h
  have r1 := heap_setCell_same _ _ 1 _ _ v1 r0
  exact ⟨store_cell h (by simp) (ownk_one hv.1), store_cell r0 (by simp) (ownk_one hv.2.1), store_cell r1 (by simp) (ownk_one hv.2.2)⟩

theorem own_keep {w w' : World} {base k n : Nat} {e : TypeId} {v : Value} {xs : List Value} (h : w.ownsRow base e k v n xs) (hk : ∀ g o, base ≤ g → w.heap[g]? = some o → w'.heap[g]? = some o) : w'.ownsRow base e k v n xs :=
  ⟨h.1, h.2.imp id fun ⟨g, cap, cur, e, h1, h2, h3⟩ => ⟨g, cap, cur, e, h1, hk _ _ h1 h2, h3⟩⟩
theorem ops_drop {w : World} {hi m : Nat} {A : Option Addr} {l : List Opp} (h : OpsT w hi A l) : OpsT w hi (A.map (·.add (m * 5))) (l.drop m) := by
  intro i o ho
  rw [List.getElem?_drop] at ho
  obtain ⟨ad, A', c, rfl, h0, h1, h2⟩ := h _ o ho
  refine ⟨ad.add (m * 5), A', c, rfl, by rw [blk_add]; exact h0, fun j u hu => ?_, h2⟩
  have := h1 j u hu
  rw [add_twice, add_twice, show m * 5 + (i * 5 + j) = (m + i) * 5 + j from by omega]
  rwa [add_twice] at this
theorem stepD_len (r : Nat) (x n : Int) (d : List UInt8) (sh : Bool) (B : List UInt8) (L : List Bk) (D : List Bool) : (stepO r x n d sh (B, L, D)).2.2.length = D.length := by
  unfold stepO
  split
  · rfl
  · split
    · show (freeO B L D x).2.2.1.length = _
      unfold freeO
      split
      · rfl
      · split
        · rfl
        · exact markD_length _ _ _
    · split
      · exact store_len B L D x d
      · split
        · rfl
        · split
          · exact tell_len B D x
          · rfl
set_option maxRecDepth 100000 in
set_option maxHeartbeats 8000000 in
theorem tells_any (A : Option Addr) (n c : Nat) (A2 : Option Addr) (n2 c2 : Nat) (l l2 : List Opp) (w : World) (h : OpsT w w.heap.size A l) (hl : l.length = n) (hn : n ≤ 140737488351232) (h2 : OpsT w w.heap.size A2 l2) (hl2 : l2.length = n2) (hn2 : n2 ≤ 140737488351232) (hc2 : n2 ≤ c2) (hc3 : c2 ≤ 140737488351232) :
    Calls Try.prog 5 #[.slice A n c, .slice A2 n2 c2] w fun e w' => e = .returned (.bool true) ∧ Below w.heap.size w w' := by
  have HOPS := Lib.hid h
  have HOPS2 := Lib.hid h2
  have HLN := Lib.hid hl
  have HLN2 := Lib.hid hl2
  have HFT := Lib.hid (fun w' (hb : Below w.heap.size w w') => fits_any A n c w.heap.size l w' (h.below hb (Nat.le_refl _)) hb.size hl hn)
  have HFT2 := Lib.hid (fun w' (hb : Below w.heap.size w w') => fits_any A2 n2 c2 w.heap.size l2 w' (h2.below hb (Nat.le_refl _)) hb.size hl2 hn2)
  clear h hl h2 hl2
  go_enter Try.func5, Try.ntmps5
  go_wp2_with fail
  refine (lives_any _).mono ?_
  rintro e w1 ⟨rfl, hb1⟩
  have HB1 := Lib.hid hb1
  clear hb1
  go_wp2_with fail
  refine (HFT.out _ HB1.out).mono ?_
  rintro e w2 ⟨rfl, hb2⟩
  have HB2 := Lib.hid (HB1.out.trans (hb2.mono HB1.out.size))
  clear hb2
  cases hft : fitsB l
  · clear hft
    go_wp2_with fail
    refine (lives_any _).mono ?_
    rintro e w3 ⟨rfl, hb3⟩
    have HB3 := Lib.hid (HB2.out.trans (hb3.mono HB2.out.size))
    clear hb3
    go_wp2
    go_ret
    exact ⟨rfl, HB3.out⟩
  have hfl : n ≤ 60 ∧ ∀ o ∈ l, o.data.length ≤ 300 := by
    unfold fitsB at hft
    simp only [Bool.and_eq_true, List.all_eq_true, decide_eq_true_eq] at hft
    exact ⟨by rw [← HLN.out]; exact hft.2, hft.1⟩
  have hn60 := hfl.1
  have HDAT := Lib.hid hfl.2
  clear hft hfl hn
  go_wp2_with fail
  refine (HFT2.out _ HB2.out).mono ?_
  rintro e w2 ⟨rfl, hb2⟩
  have HB2 := Lib.hid (HB2.out.trans (hb2.mono HB2.out.size))
  clear hb2
  cases hft : fitsB l2
  · clear hft
    go_wp2_with fail
    refine (lives_any _).mono ?_
    rintro e w3 ⟨rfl, hb3⟩
    have HB3 := Lib.hid (HB2.out.trans (hb3.mono HB2.out.size))
    clear hb3
    go_wp2
    go_ret
    exact ⟨rfl, HB3.out⟩
  have hfl : n2 ≤ 60 ∧ ∀ o ∈ l2, o.data.length ≤ 300 := by
    unfold fitsB at hft
    simp only [Bool.and_eq_true, List.all_eq_true, decide_eq_true_eq] at hft
    exact ⟨by rw [← HLN2.out]; exact hft.2, hft.1⟩
  have hn260 := hfl.1
  have HDAT2 := Lib.hid hfl.2
  clear hft hfl hn2
  go_wp2_with fail
  refine (new_any 6 w2 (by decide) (by decide)).mono ?_
  rintro e w3 ⟨v, rfl, ⟨y1, y2, y3, rfl, hp⟩, hb3⟩
  have HO3 := Lib.hid hp.ones
  have HV3 := Lib.hid (var_new hp)
  have HB3 : Hid (Below w.heap.size w (w3.alloc (.cells #[y1, y2, y3] 29))) := (HB2.out.trans (hb3.mono HB2.out.size)).alloc (by have := HB2.out.size; have := hb3.size; omega) _
  have HNW : Hid (w.heap.size ≤ w3.heap.size) := Nat.le_trans HB2.out.size hb3.size
  clear hp hb3
  go_upto_region 4 with (refine wpList_store_new rfl 29 _ _ rfl w3 #[.slice none 0 0, .slice none 0 0, .slice none 0 0] #[y1, y2, y3] rfl rfl (by kernel_rfl) rfl HO3.out ?_)
  generalize w3.alloc (.cells #[y1, y2, y3] 29) = w4 at HV3 HB3 ⊢
  generalize w3.heap.size = N at HV3 HNW ⊢
  go_wp2_with fail
  refine (new_any 6 w4 (by decide) (by decide)).mono ?_
  rintro e w5 ⟨v, rfl, ⟨u1, u2, u3, rfl, hp⟩, hb5⟩
  have HO5 := Lib.hid hp.ones
  have HVC := Lib.hid (var_new hp)
  have HVH := Lib.hid ((HV3.out.below hb5).alloc (.cells #[u1, u2, u3] 29))
  have HNM : Hid (N < w5.heap.size) := (HV3.out.below hb5).lt
  have HB5 : Hid (Below w.heap.size w (w5.alloc (.cells #[u1, u2, u3] 29))) := (HB3.out.trans (hb5.mono HB3.out.size)).alloc (by have := HB3.out.size; have := hb5.size; omega) _
  clear hp hb5 HV3 HO3
  go_upto_region 5 with (refine wpList_store_new rfl 29 _ _ rfl w5 #[.slice none 0 0, .slice none 0 0, .slice none 0 0] #[u1, u2, u3] rfl rfl (by kernel_rfl) rfl HO5.out ?_)
  generalize w5.alloc (.cells #[u1, u2, u3] 29) = w6 at HVC HVH HB5 ⊢
  generalize w5.heap.size = M at HVC HNM ⊢
  have HR6 : Hid (RightH (List.replicate (64 * 6) 0) [] (List.replicate 6 false)) := RightH.new (by decide) (by decide)
  have HL6 : Hid ((List.replicate 6 false).length = 6) := by show _ = _; simp
  go_wp2
  go_loopw [42] (fun t42 wr => ∃ (k : Nat) (B : List UInt8) (L : List Bk) (D : List Bool), k ≤ n ∧ t42 = .int .i64 (k : Int) ∧ Hid (VarH N B L D wr) ∧ Hid (RightH B L D) ∧ Hid (D.length = 6) ∧ Hid (VarH M (List.replicate (64 * 6) 0) [] (List.replicate 6 false) wr) ∧ Hid (Below w.heap.size w wr)) (fun t42 _ => n - (intOf t42).toNat)
  case atStart => exact ⟨0, _, _, _, Nat.zero_le _, rfl, HVH, HR6, HL6, HVC, HB5⟩
  case round =>
    obtain ⟨k, B, L, D, hk, rfl, HVAR, HR, HD6, HVM, HBEL⟩ := hrel
    by_cases hlt : k < n
    · obtain ⟨o, ho⟩ : ∃ o, l[k]? = some o := ⟨_, List.getElem?_eq_getElem (by rw [HLN.out]; exact hlt)⟩
      obtain ⟨ad, A', cc, rfl, -, hcs, hrd, hAn, hdc, hcc, hik, hia, hin⟩ := (HOPS.out k o ho).below HBEL.out (Nat.le_refl _)
      have HEL := Lib.hid hcs
      have HIA := Lib.hid hia
      have HIN := Lib.hid hin
      have HAN := Lib.hid hAn
      have HDL : Hid (o.data.length ≤ 300) := HDAT.out o (List.mem_of_getElem? ho)
      obtain ⟨dm, hdm⟩ : ∃ dm, o.data.length = dm := ⟨_, rfl⟩
      rw [hdm] at HEL HDL
      have HDM := Lib.hid hdm
      obtain ⟨v1, v2, v3, hx, hp⟩ := HVAR.out
      have HX := Lib.hid (old_alloc hx (.cells #[.int .i64 o.kind, .int .i64 o.at_, .int .i64 o.n, .slice A' dm cc, .bool o.short] 38))
      have HP := Lib.hid (hp.alloc (.cells #[.int .i64 o.kind, .int .i64 o.at_, .int .i64 o.n, .slice A' dm cc, .bool o.short] 38))
      have HVM := Lib.hid (HVM.out.alloc (.cells #[.int .i64 o.kind, .int .i64 o.at_, .int .i64 o.n, .slice A' dm cc, .bool o.short] 38))
      have HY := Lib.hid (heap_alloc_new wr (.cells #[.int .i64 o.kind, .int .i64 o.at_, .int .i64 o.n, .slice A' dm cc, .bool o.short] 38))
      have HBW := Lib.hid (HBEL.out.alloc HBEL.out.size (.cells #[.int .i64 o.kind, .int .i64 o.at_, .int .i64 o.n, .slice A' dm cc, .bool o.short] 38))
      have HRD2 := Lib.hid (hrd.alloc HBEL.out.size (.cells #[.int .i64 o.kind, .int .i64 o.at_, .int .i64 o.n, .slice A' dm cc, .bool o.short] 38))
      unfold opC at HEL
      obtain ⟨r, hr8, hr9⟩ := u64_rem o.kind 8 (by decide) (by decide)
      change (IntKind.u64.wrap o.kind).tmod 8 = (r : Int) at hr8
      have HR8 := Lib.hid hr8
      clear hcs hrd hAn hdc hcc hia hin hx hp ho hdm hik
      go_upto_region 10 with (first | refine wpList_load_at rfl 38 _ rfl (ad.add (k * 5)) rfl [.int .i64 o.kind, .int .i64 o.at_, .int .i64 o.n, .slice A' dm cc, .bool o.short] _ HEL.out Try.underlying38 rfl (by kernel_rfl) ?_)
      generalize wr.alloc (.cells #[.int .i64 o.kind, .int .i64 o.at_, .int .i64 o.n, .slice A' dm cc, .bool o.short] 38) = wa at HX HY HBW HP HVM HRD2 ⊢
      generalize wr.heap.size = b5 at HY ⊢
      obtain ⟨f0, f1, f2, f3, f4⟩ := five_cells HY.out
      by_cases hr5 : r < 5
      · have hr5' : (r : Int) < 5 := by omega
        clear f1 f2 f3 f4
        go_upto_region 11 with (fail)
        clear f0 hr8
        have HGEN := Lib.hid (fun W xv (hb : Below wa.heap.size wa W) (hx : Rf (List.replicate (64 * 6) 0) [] (List.replicate 6 false) xv W) => step_gen o.kind o.at_ o.n A' dm cc w.heap.size r o.data o.short W (HP.out.below hb).shut hx HR.out (RightH.new (n := 6) (by decide) (by decide)) HIA.out HIN.out HDM.out HDL.out HAN.out (HRD2.out.below hb HBW.out.size) (Nat.le_trans HBW.out.size hb.size) hr5 HR8.out)
        obtain ⟨x0, x1, x2⟩ := three_cells HX.out
        obtain ⟨f0, f1, f2, f3, f4⟩ := five_cells HY.out
        go_region_with (first
          | (go_at_call 12; refine (refnew_any 6 _ (by decide) (by decide)).mono ?_; rintro e wn ⟨xv, rfl, hrn, hbn⟩; have hbq : Below wa.heap.size wa wn := Below.trans (by first | exact Below.refl _ _ | exact below_drewN' (Below.refl _ _) 1 | exact below_drewN' (Below.refl _ _) 2) (hbn.mono (Nat.le_refl _)); have HRN := Lib.hid hrn; have HBQ := Lib.hid hbq; obtain ⟨m0, m1, m2⟩ := three_cells (old_below HX.out hbq (row_lt HX.out)); obtain ⟨h0, h1, h2, h3, h4⟩ := five_cells (old_below HY.out hbq (row_lt HY.out)); clear hrn hbn hbq)
          | (go_at_call 13; refine (HGEN.out _ _ HBQ.out HRN.out).mono ?_; rintro e ws ⟨v1', v2', fl, rfl, ⟨z1, z2, z3, rfl, hz⟩, hbs⟩; have hbt := HBQ.out.trans (hbs.mono HBQ.out.size); have HXs := Lib.hid (old_below HX.out hbt (row_lt HX.out)); obtain ⟨s0, s1, s2⟩ := stores_hp hz HXs.out; have HZ := Lib.hid hz; have HBT := Lib.hid hbt; clear hz hbs hbt))
        all_goals rw [row3 HXs.out]
        all_goals have hvs := var_set HZ.out HXs.out
        all_goals have HVS := Lib.hid hvs
        all_goals have HRS := Lib.hid (right_step HR.out r o.at_ o.n o.data o.short)
        all_goals have hbw : Below w.heap.size w (ws.setRow N #[z1, z2, z3]) := below_setRow (HBW.out.trans (HBT.out.mono HBW.out.size)) HNW.out _
        all_goals have HBS := Lib.hid hbw
        all_goals have HVMS := Lib.hid ((HVM.out.below HBT.out).set HXs.out (fun e => by have := HNM.out; omega) #[z1, z2, z3])
        all_goals clear hvs hbw
        all_goals go_wp2
        all_goals go_roundw
        all_goals first
          | (exact ⟨k + 1, _, _, _, by omega, by go_num, HVS, HRS, Lib.hid (by rw [stepD_len]; exact HD6.out), HVMS, HBS⟩)
          | (simp [intOf]; omega)
      · have hr5' : ¬ (r : Int) < 5 := by omega
        have HVN : Hid (VarH N B L D wa) := ⟨v1, v2, v3, HX.out, HP.out⟩
        go_wp2
        go_roundw
        case rel => exact ⟨k + 1, _, _, _, by omega, by go_num, HVN, HR, HD6, HVM, HBW⟩
        case measure => simp [intOf]; omega
    · obtain rfl : n = k := by omega
      have HT0 : Hid (Told 0 B (List.replicate (64 * 6) 0) D) := fun q h => absurd h (Nat.not_lt_zero _)
      clear HOPS HDAT HFT HFT2 HB1 HB2 HB3 HB5 HVC HVH
      go_wp2
      go_loopw [61] (fun t61 wr => ∃ (p : Nat) (B : List UInt8) (L : List Bk) (D : List Bool) (C : List UInt8) (E : List Bool), p ≤ 6 ∧ t61 = .int .i64 (p : Int) ∧ Hid (VarH N B L D wr) ∧ Hid (RightH B L D) ∧ Hid (D.length = 6) ∧ Hid (VarH M C [] E wr) ∧ Hid (RightH C [] E) ∧ Hid (E.length = 6) ∧ Hid (Below w.heap.size w wr) ∧ Hid (Told p B C D)) (fun t61 _ => 6 - (intOf t61).toNat)
      case atStart => exact ⟨0, _, _, _, _, _, Nat.zero_le _, rfl, HVAR, HR, HD6, HVM, HR6, HL6, HBEL, HT0⟩
      case round =>
        obtain ⟨p, B, L, D, C, E, hp6, rfl, HVAR, HR, HD6, HVM, HRC, HE6, HBEL, HT⟩ := hrel
        by_cases hlt : p < 6
        · have htc := tellc_any p N M wr HVAR.out HVM.out HR.out HRC.out (by have := HNM.out; omega) (by rw [HD6.out]; exact hlt) (by rw [HD6.out, HE6.out])
          have HTC := Lib.hid htc
          clear htc
          go_wp2_with fail
          refine HTC.out.mono ?_
          rintro e wt ⟨rfl, hv, hvc, hbk, -⟩
          have HBT : Hid (Below w.heap.size w wt) := HBEL.out.trans (hbk _ HNW.out (by have := HNW.out; have := HNM.out; omega))
          have hB : 64 * (p + 1) ≤ B.length := by rw [HR.out.len, HD6.out]; omega
          have hC : 64 * (p + 1) ≤ C.length := by rw [HRC.out.len, HE6.out]; omega
          have HR1 : Hid (RightH B L (D.set p false)) := ⟨by rw [List.length_set]; exact HR.out.len, by rw [List.length_set]; exact HR.out.one, by rw [List.length_set]; exact HR.out.most, HR.out.blk⟩
          have HRC1 : Hid (RightH (putB C (64 * p) (pageB B p)) [] E) := by
            have hl := putB_length (B := C) (l := pageB B p) (a := 64 * p) (by rw [pageB_len hB]; omega)
            exact ⟨by rw [hl]; exact HRC.out.len, HRC.out.one, HRC.out.most, trivial⟩
          have HD1 : Hid ((D.set p false).length = 6) := by show _ = _; rw [List.length_set, HD6.out]
          have HT1 : Hid (Told (p + 1) B (putB C (64 * p) (pageB B p)) (D.set p false)) := told_tell HT.out (fun q hq hne => by omega) hB hC
          have HVT := Lib.hid hv
          have HVM := Lib.hid hvc
          have HBW := HBT
          clear hv hvc hbk hB hC HTC
          by_cases hpn : p < n2
          · obtain ⟨o, ho⟩ : ∃ o, l2[p]? = some o := ⟨_, List.getElem?_eq_getElem (by rw [HLN2.out]; exact hpn)⟩
            obtain ⟨ad, A', cc, rfl, hab, hcs, hrd, hAn, hdc, hcc, hik, hia, hin⟩ := (HOPS2.out p o ho).below HBT.out (Nat.le_refl _)
            have HIA := Lib.hid hia
            have HIN := Lib.hid hin
            have HAN := Lib.hid hAn
            have HDL : Hid (o.data.length ≤ 300) := HDAT2.out o (List.mem_of_getElem? ho)
            obtain ⟨dm, hdm⟩ : ∃ dm, o.data.length = dm := ⟨_, rfl⟩
            rw [hdm] at HDL hcs
            have HEL := Lib.hid hcs
            have HDM := Lib.hid hdm
            have HRD2 := Lib.hid hrd
            obtain ⟨v1, v2, v3, hx, hp⟩ := HVT.out
            have HX := Lib.hid hx
            have HP := Lib.hid hp
            obtain ⟨r, hr8, hr9⟩ := u64_rem o.kind 8 (by decide) (by decide)
            change (IntKind.u64.wrap o.kind).tmod 8 = (r : Int) at hr8
            have HR8 := Lib.hid hr8
            have f0 : wt.cell? (ad.add (p * 5)) = some (.int .i64 o.kind) := by have := HEL.out 0 _ rfl; simpa [Addr.add] using this
            clear hcs hrd hAn hdc hcc hia hin hx hp ho hdm hik
            by_cases hr5 : r < 5
            · have hr5' : (r : Int) < 5 := by omega
              go_upto_region 20 with (fail)
              clear f0 hr8
              have HGEN := Lib.hid (fun W xv (hb : Below wt.heap.size wt W) (hx : Rf (List.replicate (64 * 6) 0) [] (List.replicate 6 false) xv W) => step_gen o.kind o.at_ o.n A' dm cc w.heap.size r o.data o.short W (HP.out.below hb).shut hx HR1.out (RightH.new (n := 6) (by decide) (by decide)) HIA.out HIN.out HDM.out HDL.out HAN.out (HRD2.out.below hb HBW.out.size) (Nat.le_trans HBW.out.size hb.size) hr5 HR8.out)
              obtain ⟨x0, x1, x2⟩ := three_cells HX.out
              have f0 : wt.cell? (ad.add (p * 5)) = some (.int .i64 o.kind) := (by have := HEL.out 0 _ rfl; simpa [Addr.add] using this)
              have f1 : wt.cell? ⟨(ad.add (p * 5)).block, (ad.add (p * 5)).off + 1, none⟩ = some (.int .i64 o.at_) := (by have := HEL.out 1 _ rfl; rwa [show (ad.add (p * 5)).add 1 = ⟨(ad.add (p * 5)).block, (ad.add (p * 5)).off + 1, none⟩ from rfl] at this)
              have f2 : wt.cell? ⟨(ad.add (p * 5)).block, (ad.add (p * 5)).off + 2, none⟩ = some (.int .i64 o.n) := (by have := HEL.out 2 _ rfl; rwa [show (ad.add (p * 5)).add 2 = ⟨(ad.add (p * 5)).block, (ad.add (p * 5)).off + 2, none⟩ from rfl] at this)
              have f3 : wt.cell? ⟨(ad.add (p * 5)).block, (ad.add (p * 5)).off + 3, none⟩ = some (.slice A' dm cc) := (by have := HEL.out 3 _ rfl; rwa [show (ad.add (p * 5)).add 3 = ⟨(ad.add (p * 5)).block, (ad.add (p * 5)).off + 3, none⟩ from rfl] at this)
              have f4 : wt.cell? ⟨(ad.add (p * 5)).block, (ad.add (p * 5)).off + 4, none⟩ = some (.bool o.short) := (by have := HEL.out 4 _ rfl; rwa [show (ad.add (p * 5)).add 4 = ⟨(ad.add (p * 5)).block, (ad.add (p * 5)).off + 4, none⟩ from rfl] at this)
              go_region_with (first
                | (go_at_call 12; refine (refnew_any 6 _ (by decide) (by decide)).mono ?_; rintro e wn ⟨xv, rfl, hrn, hbn⟩; have hbq : Below wt.heap.size wt wn := Below.trans (by first | exact Below.refl _ _ | exact below_drewN' (Below.refl _ _) 1 | exact below_drewN' (Below.refl _ _) 2) (hbn.mono (Nat.le_refl _)); have HRN := Lib.hid hrn; have HBQ := Lib.hid hbq; obtain ⟨m0, m1, m2⟩ := three_cells (old_below HX.out hbq (row_lt HX.out)); have hen : ∀ j u, (opC o (.slice A' dm cc))[j]? = some u → wn.cell? ((ad.add (p * 5)).add j) = some u := fun j u hu => (hbq.cell (p := (ad.add (p * 5)).add j) (by rw [blk_add, blk_add]; have := HBT.out.size; omega)).trans (HEL.out j u hu); have h0 : wn.cell? (ad.add (p * 5)) = some (.int .i64 o.kind) := (by have := hen 0 _ rfl; simpa [Addr.add] using this); have h1 : wn.cell? ⟨(ad.add (p * 5)).block, (ad.add (p * 5)).off + 1, none⟩ = some (.int .i64 o.at_) := (by have := hen 1 _ rfl; rwa [show (ad.add (p * 5)).add 1 = ⟨(ad.add (p * 5)).block, (ad.add (p * 5)).off + 1, none⟩ from rfl] at this); have h2 : wn.cell? ⟨(ad.add (p * 5)).block, (ad.add (p * 5)).off + 2, none⟩ = some (.int .i64 o.n) := (by have := hen 2 _ rfl; rwa [show (ad.add (p * 5)).add 2 = ⟨(ad.add (p * 5)).block, (ad.add (p * 5)).off + 2, none⟩ from rfl] at this); have h3 : wn.cell? ⟨(ad.add (p * 5)).block, (ad.add (p * 5)).off + 3, none⟩ = some (.slice A' dm cc) := (by have := hen 3 _ rfl; rwa [show (ad.add (p * 5)).add 3 = ⟨(ad.add (p * 5)).block, (ad.add (p * 5)).off + 3, none⟩ from rfl] at this); have h4 : wn.cell? ⟨(ad.add (p * 5)).block, (ad.add (p * 5)).off + 4, none⟩ = some (.bool o.short) := (by have := hen 4 _ rfl; rwa [show (ad.add (p * 5)).add 4 = ⟨(ad.add (p * 5)).block, (ad.add (p * 5)).off + 4, none⟩ from rfl] at this);  clear hen; clear hrn hbn hbq)
                | (go_at_call 13; refine (HGEN.out _ _ HBQ.out HRN.out).mono ?_; rintro e ws ⟨v1', v2', fl, rfl, ⟨z1, z2, z3, rfl, hz⟩, hbs⟩; have hbt := HBQ.out.trans (hbs.mono HBQ.out.size); have HXs := Lib.hid (old_below HX.out hbt (row_lt HX.out)); obtain ⟨s0, s1, s2⟩ := stores_hp hz HXs.out; have HZ := Lib.hid hz; have HBT := Lib.hid hbt; clear hz hbs hbt))
              all_goals rw [row3 HXs.out]
              all_goals have hvs := var_set HZ.out HXs.out
              all_goals have HVS := Lib.hid hvs
              all_goals have HRS := Lib.hid (right_step HR1.out r o.at_ o.n o.data o.short)
              all_goals have hbw : Below w.heap.size w (ws.setRow N #[z1, z2, z3]) := below_setRow (HBW.out.trans (HBT.out.mono HBW.out.size)) HNW.out _
              all_goals have HBS := Lib.hid hbw
              all_goals have HVMS := Lib.hid ((HVM.out.below HBT.out).set HXs.out (fun e => by have := HNM.out; omega) #[z1, z2, z3])
              all_goals clear hvs hbw
              all_goals go_wp2
              all_goals go_roundw
              all_goals first
                | (exact ⟨p + 1, _, _, _, _, _, by omega, by go_num, HVS, HRS, Lib.hid (by rw [stepD_len]; exact HD1.out), HVMS, HRC1, HE6, HBS, Lib.hid (told_step HT1.out HR1.out r hr5 o.at_ o.n o.data o.short)⟩)
                | (simp [intOf]; omega)
            · have hr5' : ¬ (r : Int) < 5 := by omega
              go_wp2
              go_roundw
              case rel => exact ⟨p + 1, _, _, _, _, _, by omega, by go_num, HVT, HR1, HD1, HVM, HRC1, HE6, HBT, HT1⟩
              case measure => simp [intOf]; omega
          · go_wp2
            go_roundw
            case rel => exact ⟨p + 1, _, _, _, _, _, by omega, by go_num, HVT, HR1, HD1, HVM, HRC1, HE6, HBT, HT1⟩
            case measure => simp [intOf]; omega
        · obtain rfl : p = 6 := by omega
          go_upto_region 22 with (fail)
          go_cut [98, 99, 100] (fun t98 t99 t100 wx => ∃ (A3 : Option Addr) (n3 c3 : Nat) (l3 : List Opp), t98 = .slice A3 n3 c3 ∧ t99 = .int .i64 (n3 : Int) ∧ t100 = .int .i64 0 ∧ Hid (OpsT w w.heap.size A3 l3) ∧ Hid (l3.length = n3) ∧ Hid (∀ o ∈ l3, o.data.length ≤ 300) ∧ n3 ≤ 60 ∧ wr = wx)
          case first =>
            rcases Nat.lt_trichotomy n2 6 with hq | hq | hq
            · have hq' : (n2 : Int) < 6 := by omega
              by_cases hcn : c2 = n2
              · subst hcn
                go_wp2
                go_meet
                case rel => exact ⟨_, _, _, [], rfl, rfl, rfl, Lib.hid (fun i o h => by simp at h), Lib.hid (by simp), Lib.hid (fun o h => by cases h), by omega, rfl⟩
              · go_wp2
                go_meet
                case rel => exact ⟨_, _, _, [], rfl, rfl, rfl, Lib.hid (fun i o h => by simp at h), Lib.hid (by simp), Lib.hid (fun o h => by cases h), by omega, rfl⟩
            · subst hq
              by_cases hcn : c2 = 6
              · subst hcn
                go_wp2
                go_meet
                case rel => exact ⟨_, _, _, [], rfl, rfl, rfl, Lib.hid (fun i o h => by simp at h), Lib.hid (by simp), Lib.hid (fun o h => by cases h), by omega, rfl⟩
              · go_wp2
                go_meet
                case rel => exact ⟨_, _, _, [], rfl, rfl, rfl, Lib.hid (fun i o h => by simp at h), Lib.hid (by simp), Lib.hid (fun o h => by cases h), by omega, rfl⟩
            · have hq' : (6 : Int) < (n2 : Int) := by omega
              have hcn : ¬ c2 = 6 := by omega
              obtain ⟨o, ho⟩ : ∃ o, l2[0]? = some o := ⟨_, List.getElem?_eq_getElem (by rw [HLN2.out]; omega)⟩
              obtain ⟨ad, -, -, rfl, -⟩ := HOPS2.out 0 o ho
              have h3 := ops_drop (m := 6) HOPS2.out
              have HO3 := Lib.hid h3
              clear ho h3
              go_wp2
              go_meet
              case rel => exact ⟨_, _, _, l2.drop 6, rfl, rfl, rfl, HO3, Lib.hid (by rw [List.length_drop, HLN2.out]), Lib.hid (fun o h => HDAT2.out o (List.mem_of_mem_drop h)), by omega, rfl⟩
          case rest =>
          obtain ⟨A3, n3, c3, l3, rfl, rfl, rfl, HOPS3, HLN3, HDAT3, hn3, rfl⟩ := hcut
          clear HOPS2 HDAT2
          go_wp2
          go_loopw [100] (fun t100 wr => ∃ (k : Nat) (B : List UInt8) (L : List Bk) (D : List Bool), k ≤ n3 ∧ t100 = .int .i64 (k : Int) ∧ Hid (VarH N B L D wr) ∧ Hid (RightH B L D) ∧ Hid (D.length = 6) ∧ Hid (VarH M C [] E wr) ∧ Hid (Below w.heap.size w wr) ∧ Hid (Told 6 B C D)) (fun t100 _ => n3 - (intOf t100).toNat)
          case atStart => exact ⟨0, _, _, _, Nat.zero_le _, rfl, HVAR, HR, HD6, HVM, HBEL, HT⟩
          case round =>
            obtain ⟨k, B, L, D, hk, rfl, HVAR, HR, HD6, HVM, HBEL, HT⟩ := hrel
            by_cases hlt : k < n3
            · obtain ⟨o, ho⟩ : ∃ o, l3[k]? = some o := ⟨_, List.getElem?_eq_getElem (by rw [HLN3.out]; exact hlt)⟩
              obtain ⟨ad, A', cc, rfl, -, hcs, hrd, hAn, hdc, hcc, hik, hia, hin⟩ := (HOPS3.out k o ho).below HBEL.out (Nat.le_refl _)
              have HEL := Lib.hid hcs
              have HIA := Lib.hid hia
              have HIN := Lib.hid hin
              have HAN := Lib.hid hAn
              have HDL : Hid (o.data.length ≤ 300) := HDAT3.out o (List.mem_of_getElem? ho)
              obtain ⟨dm, hdm⟩ : ∃ dm, o.data.length = dm := ⟨_, rfl⟩
              rw [hdm] at HEL HDL
              have HDM := Lib.hid hdm
              obtain ⟨v1, v2, v3, hx, hp⟩ := HVAR.out
              have HX := Lib.hid (old_alloc hx (.cells #[.int .i64 o.kind, .int .i64 o.at_, .int .i64 o.n, .slice A' dm cc, .bool o.short] 38))
              have HP := Lib.hid (hp.alloc (.cells #[.int .i64 o.kind, .int .i64 o.at_, .int .i64 o.n, .slice A' dm cc, .bool o.short] 38))
              have HVM := Lib.hid (HVM.out.alloc (.cells #[.int .i64 o.kind, .int .i64 o.at_, .int .i64 o.n, .slice A' dm cc, .bool o.short] 38))
              have HY := Lib.hid (heap_alloc_new wr (.cells #[.int .i64 o.kind, .int .i64 o.at_, .int .i64 o.n, .slice A' dm cc, .bool o.short] 38))
              have HBW := Lib.hid (HBEL.out.alloc HBEL.out.size (.cells #[.int .i64 o.kind, .int .i64 o.at_, .int .i64 o.n, .slice A' dm cc, .bool o.short] 38))
              have HRD2 := Lib.hid (hrd.alloc HBEL.out.size (.cells #[.int .i64 o.kind, .int .i64 o.at_, .int .i64 o.n, .slice A' dm cc, .bool o.short] 38))
              unfold opC at HEL
              obtain ⟨r, hr8, hr9⟩ := u64_rem o.kind 8 (by decide) (by decide)
              change (IntKind.u64.wrap o.kind).tmod 8 = (r : Int) at hr8
              have HR8 := Lib.hid hr8
              clear hcs hrd hAn hdc hcc hia hin hx hp ho hdm hik
              go_upto_region 25 with (first | refine wpList_load_at rfl 38 _ rfl (ad.add (k * 5)) rfl [.int .i64 o.kind, .int .i64 o.at_, .int .i64 o.n, .slice A' dm cc, .bool o.short] _ HEL.out Try.underlying38 rfl (by kernel_rfl) ?_)
              generalize wr.alloc (.cells #[.int .i64 o.kind, .int .i64 o.at_, .int .i64 o.n, .slice A' dm cc, .bool o.short] 38) = wa at HX HY HBW HP HVM HRD2 ⊢
              generalize wr.heap.size = b5 at HY ⊢
              obtain ⟨f0, f1, f2, f3, f4⟩ := five_cells HY.out
              by_cases hr5 : r < 5
              · have hr5' : (r : Int) < 5 := by omega
                clear f1 f2 f3 f4
                go_upto_region 26 with (fail)
                clear f0 hr8
                have HGEN := Lib.hid (fun W xv (hb : Below wa.heap.size wa W) (hx : Rf (List.replicate (64 * 6) 0) [] (List.replicate 6 false) xv W) => step_gen o.kind o.at_ o.n A' dm cc w.heap.size r o.data o.short W (HP.out.below hb).shut hx HR.out (RightH.new (n := 6) (by decide) (by decide)) HIA.out HIN.out HDM.out HDL.out HAN.out (HRD2.out.below hb HBW.out.size) (Nat.le_trans HBW.out.size hb.size) hr5 HR8.out)
                obtain ⟨x0, x1, x2⟩ := three_cells HX.out
                obtain ⟨f0, f1, f2, f3, f4⟩ := five_cells HY.out
                go_region_with (first
                  | (go_at_call 12; refine (refnew_any 6 _ (by decide) (by decide)).mono ?_; rintro e wn ⟨xv, rfl, hrn, hbn⟩; have hbq : Below wa.heap.size wa wn := Below.trans (by first | exact Below.refl _ _ | exact below_drewN' (Below.refl _ _) 1 | exact below_drewN' (Below.refl _ _) 2) (hbn.mono (Nat.le_refl _)); have HRN := Lib.hid hrn; have HBQ := Lib.hid hbq; obtain ⟨m0, m1, m2⟩ := three_cells (old_below HX.out hbq (row_lt HX.out)); obtain ⟨h0, h1, h2, h3, h4⟩ := five_cells (old_below HY.out hbq (row_lt HY.out)); clear hrn hbn hbq)
                  | (go_at_call 13; refine (HGEN.out _ _ HBQ.out HRN.out).mono ?_; rintro e ws ⟨v1', v2', fl, rfl, ⟨z1, z2, z3, rfl, hz⟩, hbs⟩; have hbt := HBQ.out.trans (hbs.mono HBQ.out.size); have HXs := Lib.hid (old_below HX.out hbt (row_lt HX.out)); obtain ⟨s0, s1, s2⟩ := stores_hp hz HXs.out; have HZ := Lib.hid hz; have HBT := Lib.hid hbt; clear hz hbs hbt))
                all_goals rw [row3 HXs.out]
                all_goals have hvs := var_set HZ.out HXs.out
                all_goals have HVS := Lib.hid hvs
                all_goals have HRS := Lib.hid (right_step HR.out r o.at_ o.n o.data o.short)
                all_goals have hbw : Below w.heap.size w (ws.setRow N #[z1, z2, z3]) := below_setRow (HBW.out.trans (HBT.out.mono HBW.out.size)) HNW.out _
                all_goals have HBS := Lib.hid hbw
                all_goals have HVMS := Lib.hid ((HVM.out.below HBT.out).set HXs.out (fun e => by have := HNM.out; omega) #[z1, z2, z3])
                all_goals clear hvs hbw
                all_goals go_wp2
                all_goals go_roundw
                all_goals first
                  | (exact ⟨k + 1, by omega, by go_num, _, _, _, HVS, HRS, Lib.hid (by rw [stepD_len]; exact HD6.out), Lib.hid (told_step HT.out HR.out r hr5 o.at_ o.n o.data o.short)⟩)
                  | ((repeat apply Exists.intro); exact ⟨⟨k + 1, _, _, _, by omega, by go_num, HVS, HRS, Lib.hid (by rw [stepD_len]; exact HD6.out), HVMS, HBS, Lib.hid (told_step HT.out HR.out r hr5 o.at_ o.n o.data o.short)⟩, rfl⟩)
                  | (simp [intOf]; omega)
              · have hr5' : ¬ (r : Int) < 5 := by omega
                have HVN : Hid (VarH N B L D wa) := ⟨v1, v2, v3, HX.out, HP.out⟩
                go_wp2
                go_roundw
                case rel => exact ⟨k + 1, by omega, by go_num, _, _, _, HVN, HR, HD6, HT⟩
                case measure => simp [intOf]; omega
            · obtain rfl : n3 = k := by omega
              clear HOPS3 HDAT3
              obtain ⟨v1, v2, v3, hx, hp⟩ := HVAR.out
              have HX := Lib.hid hx
              have hwr := written_any wr hp.shut (by rw [HD6.out]; decide)
              obtain ⟨W, hW⟩ : ∃ W, pagesTo D D.length = W := ⟨_, rfl⟩
              have HIN : Hid (∀ q : Nat, D[q]? = some true → q ∈ W.drop 0) := fun q h => by rw [← hW]; simpa using pages_in h
              have HWM : Hid (∀ q ∈ W, q < 6) := fun q h => by rw [← hW] at h; have := pages_mem h; have := HD6.out; omega
              rw [hW] at hwr
              obtain ⟨J, hJ⟩ : ∃ J, W.length = J := ⟨_, rfl⟩
              rw [hJ] at hwr
              have hJ6 : J ≤ 6 := by rw [← hJ, ← hW, ← HD6.out]; exact pages_le D D.length
              have HJ := Lib.hid hJ
              have HWR := Lib.hid hwr
              have HML := Lib.hid HVM.out.lt
              clear hx hp hwr hW hJ
              go_wp2_with (refine wpList_load_row rfl 29 _ rfl N rfl 29 #[v1, v2, v3] (0, 0) _ HX.out Try.underlying29 rfl (by kernel_rfl) ?_)
              refine HWR.out.mono ?_
              rintro e wp ⟨u, rfl, hou, hbp⟩
              obtain ⟨Au, cu, rfl, hJc, -, -⟩ := ownk_form hou
              have HOU := Lib.hid (ownk_base hou HML.out)
              have HV4 := Lib.hid (HVAR.out.below hbp)
              have HM4 := Lib.hid (HVM.out.below hbp)
              have HB4 := Lib.hid (HBEL.out.trans (hbp.mono HBEL.out.size))
              clear hou hbp HWR HX
              go_wp2
              go_loopw [121] (fun t121 wr => ∃ (k : Nat) (D : List Bool) (C : List UInt8), k ≤ J ∧ t121 = .int .i64 (k : Int) ∧ Hid (VarH N B L D wr) ∧ Hid (RightH B L D) ∧ Hid (D.length = 6) ∧ Hid (VarH M C [] E wr) ∧ Hid (RightH C [] E) ∧ Hid (E.length = 6) ∧ Hid (Below w.heap.size w wr) ∧ Hid (Told 6 B C D) ∧ Hid (∀ q : Nat, D[q]? = some true → q ∈ W.drop k) ∧ Hid (wr.ownsRow (M + 1) 3 1 (.slice Au J cu) J (ints W))) (fun t121 _ => J - (intOf t121).toNat)
              case atStart => exact ⟨0, _, _, Nat.zero_le _, rfl, HV4, HR, HD6, HM4, HRC, HE6, HB4, HT, HIN, HOU⟩
              case round =>
                obtain ⟨k, D, C, hk, rfl, HVAR, HR, HD6, HVM, HRC, HE6, HBEL, HT, HIN, HOU⟩ := hrel
                by_cases hlt : k < J
                · obtain ⟨p, hpw⟩ : ∃ p, W[k]? = some p := ⟨_, List.getElem?_eq_getElem (by rw [HJ.out]; exact hlt)⟩
                  have hp6 : p < 6 := HWM.out p (List.mem_of_getElem? hpw)
                  obtain ⟨gu, cq, cur, eu, -, -, hgcu, -⟩ := ownk_some HOU.out (by omega)
                  injection eu with eu _ eu2
                  subst eu eu2
                  have q0 := own_cell HOU.out (j := k) (u := .int .i64 (p : Int)) (by simp [ints, hpw])
                  have htc := tellc_any p N M wr HVAR.out HVM.out HR.out HRC.out (by have := HNM.out; omega) (by rw [HD6.out]; exact hp6) (by rw [HD6.out, HE6.out])
                  have HTC := Lib.hid htc
                  have HPW := Lib.hid hpw
                  clear htc hpw
                  go_wp2_with fail
                  clear q0
                  refine HTC.out.mono ?_
                  rintro e wt ⟨rfl, hv, hvc, hbk, hkeep⟩
                  have HBT : Hid (Below w.heap.size w wt) := HBEL.out.trans (hbk _ HNW.out (by have := HNW.out; have := HNM.out; omega))
                  have hB : 64 * (p + 1) ≤ B.length := by rw [HR.out.len, HD6.out]; omega
                  have hC : 64 * (p + 1) ≤ C.length := by rw [HRC.out.len, HE6.out]; omega
                  have HR1 : Hid (RightH B L (D.set p false)) := ⟨by rw [List.length_set]; exact HR.out.len, by rw [List.length_set]; exact HR.out.one, by rw [List.length_set]; exact HR.out.most, HR.out.blk⟩
                  have HRC1 : Hid (RightH (putB C (64 * p) (pageB B p)) [] E) := by
                    have hl := putB_length (B := C) (l := pageB B p) (a := 64 * p) (by rw [pageB_len hB]; omega)
                    exact ⟨by rw [hl]; exact HRC.out.len, HRC.out.one, HRC.out.most, trivial⟩
                  have HD1 : Hid ((D.set p false).length = 6) := by show _ = _; rw [List.length_set, HD6.out]
                  have HT1 : Hid (Told 6 B (putB C (64 * p) (pageB B p)) (D.set p false)) := told_tell HT.out (fun q hq hne => hq) hB hC
                  have HIN1 : Hid (∀ q : Nat, (D.set p false)[q]? = some true → q ∈ W.drop (k + 1)) := fun q h => by
                    have hne : q ≠ p := fun e => by
                      subst e
                      rw [List.getElem?_set, if_pos rfl] at h
                      split at h <;> cases h
                    have h2 := HIN.out q (set_get h hne)
                    rw [List.drop_eq_getElem?_toList_append, HPW.out] at h2
                    simpa [hne] using h2
                  have HOU1 : Hid (wt.ownsRow (M + 1) 3 1 (.slice (some ⟨gu, 0, none⟩) J cu) J (ints W)) := own_keep HOU.out fun g o hg ho => (hkeep g (row_lt ho) (by have := HNM.out; omega) (by omega)).trans ho
                  have HVT := Lib.hid hv
                  have HVM1 := Lib.hid hvc
                  clear hv hvc hbk hkeep hB hC HTC
                  go_wp2
                  go_roundw
                  case rel => exact ⟨k + 1, _, _, by omega, by go_num, HVT, HR1, HD1, HVM1, HRC1, HE6, HBT, HT1, HIN1, HOU1⟩
                  case measure => simp [intOf]; omega
                · obtain rfl : J = k := by omega
                  have HF : Hid (∀ q : Nat, D[q]? ≠ some true) := fun q h => by
                    have := HIN.out q h
                    rw [List.drop_eq_nil_of_le (by rw [HJ.out]; exact Nat.le_refl _)] at this
                    cases this
                  have hBC := told_all HT.out HD6.out HF.out (by rw [HR.out.len, HD6.out]) (by rw [HRC.out.len, HE6.out])
                  subst hBC
                  have hpe := pages_empty HF.out
                  obtain ⟨nb, hnb⟩ : ∃ nb, B.length = nb := ⟨_, rfl⟩
                  obtain ⟨v1, v2, v3, hx, hp⟩ := HVAR.out
                  obtain ⟨u1, u2, u3, hxc, hpc⟩ := HVM.out
                  have hwr := written_any wr hp.shut (by rw [HD6.out]; decide)
                  rw [hpe] at hwr
                  have HWR := Lib.hid hwr
                  obtain ⟨Y1, l1, d1, Y2, l2', d2, Y3, l3', d3, rfl, rfl, rfl⟩ := hp.forms_
                  obtain ⟨Z1, m1, e1, Z2, m2, e2, Z3, m3, e3, rfl, rfl, rfl⟩ := hpc.forms_
                  have hs1 := conv_row hp.1
                  have hs2 := conv_row hpc.1
                  obtain ⟨x0, x1, x2⟩ := three_cells hx
                  obtain ⟨y0, y1, y2⟩ := three_cells hxc
                  clear hpe hwr hp hpc hx hxc
                  go_wp2_with fail
                  refine HWR.out.mono ?_
                  rintro e wz ⟨u, rfl, hou, hbz⟩
                  obtain ⟨Au2, cu2, rfl, -⟩ := ownk_form hou
                  have HBZ := Lib.hid (HBEL.out.trans (hbz.mono HBEL.out.size))
                  clear hou hbz x0 x1 x2 y0 y1 y2 hs1 hs2
                  go_wp2
                  go_ret
                  exact ⟨rfl, HBZ.out⟩
end Go.Proofs.Ytagajijjcjfopaa
