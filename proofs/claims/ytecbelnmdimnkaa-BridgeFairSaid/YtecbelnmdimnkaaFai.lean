/-
  The law BridgeFair: every slice of frames and every two ints. No condition.
-/
import Derived.Test.YtecbelnmdimnkaaFaM
namespace Go.Proofs.Ytecbelnmdimnkaa
open Go.RowKit

def Z4 : Array Value := #[.int .i64 0, .int .u8 0, .int .u8 0, .slice none 0 0]
theorem fmA_one (f : Fm) (A : Option Addr) (n c : Nat) : (fmA f (.slice A n c)).all (·.oneCell') = true := by simp [fmA, Value.oneCell']
set_option maxRecDepth 100000 in
set_option maxHeartbeats 16000000 in
theorem fair_any (A : Option Addr) (n c : Nat) (a1 a2 : Int) (l : List Fm) (w : World) (h : FmsT w w.heap.size A l) (hl : l.length = n) (hn : n ≤ 140737488351232) :
    Calls Try.prog 4 #[.slice A n c, .int .i64 a1, .int .i64 a2] w fun e w' => e = .returned (.bool true) ∧ Below w.heap.size w w' := by
  have HFMS := Lib.hid h
  have HLN := Lib.hid hl
  have HFT := Lib.hid (fun w' (hb : Below w.heap.size w w') => fits_any A n c w.heap.size l w' (h.below hb (Nat.le_refl _)) hb.size hl hn)
  obtain ⟨i, hi1, hi2⟩ := u64_rem a1 4 (by decide) (by decide)
  obtain ⟨k, hk1, hk2⟩ := u64_rem a2 4 (by decide) (by decide)
  change (IntKind.u64.wrap a1).tmod 4 = (i : Int) at hi1
  change (IntKind.u64.wrap a2).tmod 4 = (k : Int) at hk1
  have HIK := Lib.hid (And.intro hi1 hk1)
  clear h hl hi1 hk1
  go_enter Try.func4, Try.ntmps4
  go_wp2_with fail
  refine (lives_any _).mono ?_
  rintro e w1 ⟨rfl, hb1⟩
  have HB0 := Lib.hid hb1
  clear hb1
  go_wp2_with fail
  refine (HFT.out _ HB0.out).mono ?_
  rintro e w2 ⟨rfl, hb2⟩
  have HB1 := Lib.hid (HB0.out.trans (hb2.mono HB0.out.size))
  clear hb2 HB0 HFT
  cases hft : fitsB l
  · clear hft
    go_wp2_with fail
    refine (lives_any _).mono ?_
    rintro e w3 ⟨rfl, hb3⟩
    have HB3 := Lib.hid (HB1.out.trans (hb3.mono HB1.out.size))
    clear hb3
    go_wp2
    go_ret
    exact ⟨rfl, HB3.out⟩
  have hn100 : n ≤ 100 := by rw [← HLN.out]; exact (fits_of hft).1
  clear hft hn
  obtain ⟨P, hP⟩ : ∃ P, P = 4 := ⟨_, rfl⟩
  have HNEW : Hid (Calls Try.prog 8 #[.int .i64 4] w2 fun e w' => e = .returned (.tuple #[.agg #[.int .i64 (P : Int), .slice none 0 0], .int .i64 0]) ∧ Below w2.heap.size w2 w') := by rw [hP]; exact new_ok 4 w2 (by decide) (by decide)
  have HPP : Hid (P ≤ 8) := by show P ≤ 8; omega
  have HP4 : Hid (P = 4) := hP
  clear hP
  go_wp2_with fail
  refine HNEW.out.mono ?_
  rintro e w3 ⟨rfl, hb3⟩
  have HBA : Hid (Below w.heap.size w (w3.alloc (.cells #[.int .i64 (P : Int), .slice none 0 0] 27))) := (HB1.out.trans (hb3.mono HB1.out.size)).alloc (Nat.le_trans HB1.out.size hb3.size) _
  have HVA : Hid (VarB w3.heap.size P [] (w3.alloc (.cells #[.int .i64 (P : Int), .slice none 0 0] 27))) := ⟨_, heap_alloc_new w3 _, KsT.nil⟩
  have HNW : Hid (w.heap.size ≤ w3.heap.size) := Nat.le_trans HB1.out.size hb3.size
  clear hb3 HB1 HNEW
  go_upto_region 4 with (refine wpList_store_new rfl 27 _ _ rfl w3 B2 #[.int .i64 (P : Int), .slice none 0 0] rfl rfl (by kernel_rfl) rfl (B2_ones _ _ _ _) ?_)
  generalize w3.alloc (.cells #[.int .i64 (P : Int), .slice none 0 0] 27) = wa at HBA HVA ⊢
  generalize w3.heap.size = N at HVA HNW ⊢
  go_wp2
  go_loopw [40] (fun t40 wr => ∃ (j : Nat) (K : List Ln), j ≤ n ∧ t40 = .int .i64 (j : Int) ∧ Hid (VarB N P K wr) ∧ Hid (K.length ≤ 16) ∧ Hid (Ports P K) ∧ Hid (Below w.heap.size w wr)) (fun t40 _ => n - (intOf t40).toNat)
  case atStart => exact ⟨0, [], Nat.zero_le _, rfl, HVA, (by decide : ([] : List Ln).length ≤ 16), (show Ports P [] from fun _ hl => (by cases hl)), HBA⟩
  case round =>
    obtain ⟨j, K, hj, rfl, HV, HKL, HPO, HBE⟩ := hrel
    clear HVA HBA
    by_cases hlt : j < n
    · obtain ⟨f, hf⟩ : ∃ f, l[j]? = some f := ⟨_, List.getElem?_eq_getElem (by rw [HLN.out]; exact hlt)⟩
      obtain ⟨ad, A', cc, rfl, -, hcs, hrd, hA, hlc, hcc, -⟩ := (HFMS.out j f hf).below HBE.out (Nat.le_refl _)
      have HEL := Lib.hid hcs
      obtain ⟨wq, hwq⟩ : ∃ wq, wr.alloc (.cells (fmA f (.slice A' f.raw.length cc)) 35) = wq := ⟨_, rfl⟩
      have hbq : Below wr.heap.size wr wq := by rw [← hwq]; exact (Below.refl _ _).alloc (Nat.le_refl _) _
      have HQ0 : Hid (wq.heap[wr.heap.size]? = some (.cells (fmA f (.slice A' f.raw.length cc)) 35 (0, 0))) := by rw [← hwq]; exact heap_alloc_new wr _
      have HV0 : Hid (ByT wq (.slice A' f.raw.length cc) f.raw) := ⟨A', cc, rfl, (hrd.below hbq HBE.out.size).wide (Nat.zero_le _) (Nat.le_trans HBE.out.size hbq.size), hA, hlc, by unfold maxLen; omega⟩
      have HVQ := Lib.hid (HV.out.below hbq)
      have HBQ := Lib.hid (HBE.out.trans (hbq.mono HBE.out.size))
      have HQW : Hid (w.heap.size ≤ wr.heap.size) := HBE.out.size
      have HWQ : Hid (_ = wq) := hwq
      clear hf hcs hrd hA hlc hcc hbq hwq HV HBE
      go_upto_region 9 with (first | refine wpList_load_atA rfl 35 _ rfl (ad.add (j * 4)) rfl (fmA f (.slice A' f.raw.length cc)) _ HEL.out Try.underlying35 rfl (by kernel_rfl) ?_ | refine wpList_store_new rfl 35 _ _ rfl wr Z4 (fmA f (.slice A' f.raw.length cc)) rfl rfl (by kernel_rfl) rfl (fmA_one f _ _ _) ?_)
      rw [HWQ.out]
      clear HWQ HEL
      generalize wr.heap.size = Q at HQ0 HQW ⊢
      have HQ := HQ0
      clear HQ0
      obtain ⟨sb, hnx, hks⟩ := HVQ.out
      have HNX := Lib.hid hnx
      have HKS := Lib.hid hks
      clear hnx hks HVQ
      obtain ⟨r, hr⟩ : ∃ r, fwX P K f.port f.bytes = r := ⟨_, rfl⟩
      obtain ⟨K1, L1, er⟩ := r
      have HFX : Hid (fwX P K f.port f.bytes = (K1, L1, er)) := hr
      have hfair := fwX_fair HPO.out f.port f.bytes
      have hkle := fwX_le (P := P) (z := f.port) (F := f.bytes) HKL.out
      have hml := fwX_out P K f.port f.bytes
      rw [hr] at hfair hkle hml
      have HML : Hid (L1.length ≤ 9) := Nat.le_trans hml (by have := HPP.out; omega)
      have HPO1 : Hid (Ports P K1) := hfair.1
      have HFAIR : Hid (∀ p ∈ L1, (p : Int) ≠ f.port ∧ p < P) := hfair.2
      have HKL1 : Hid (K1.length ≤ 16) := hkle
      clear hr hfair hkle hml
      apply wp_region_relyV [10, 11] [11] (NewV wq 10 11 11 P K1) (RL [Is (.agg #[.int .i64 (P : Int), sb]), Is (.pointer (some ⟨Q, 0, none⟩)), Is (.int .i64 f.port), Is (.agg (fmA f (.slice A' f.raw.length cc))), ByP wq.heap.size (.slice A' f.raw.length cc) f, FwV P K1 L1 er, FwV P K1 L1 er, BrV P K1, IsV L1, Is (.int .i64 er), Any, Any, IsV L1, Is (.int .i64 er)]) [false, false, false, false, false, false, false, false, false, false, false, true, true, true, false, false, false, false, false, false, false, false, false, false, false, false, false, false, false, false, false, false, false, false, false, false, false, false, false, false, false, false, false, false, true, true, true, true, true, true, true, true, true, true, false, false, false, false, false, false, false, false, false, false, false, false, false, false, false, false, false, false, false, false, false, false, false, false, false, false, false, false, false, false, false, false, false, false, false, false, false, false, false, false, false, false, false, false, false, false, false, false, false, false, false, false, false, false, false, false, false, false, false, false, false, false, false, false, false, false, false, false, false, false, false, false, false, false, false, false, false, false, false, false, false, false, false, false, false, false, false, false, false, false, false, false, false, false, false, false, false, false, false, false, false, false, false, false, false, false, false, false]
      · kernel_rfl
      · kernel_rfl
      · kernel_rfl
      · refine ⟨?_, ?_, ?_, ?_, ?_, ?_, ?_, ?_, ?_, ?_, ?_, ?_, ?_, ?_, trivial⟩
        · intro L us ev w' hus hC hL hx hnd K hK
          have e7 : ev (.tmp 7) = _ := hx.base 7 (by kernel_rfl)
          have HK := Lib.hid hK
          have HC := Lib.hid hC
          have HL := Lib.hid hL
          have HX := Lib.hid hx
          have HUS := Lib.hid hus
          have HND := Lib.hid hnd
          have hc := hx.cst
          skip
          clear hx hK hC hL hus hnd
          have q1 : ev (.tmp 7) = .pointer (some ⟨N, 0, none⟩) := e7
          have hld := run_loadVar_row (P := Try.prog) w' N 27 27 #[.int .i64 (P : Int), sb] (0, 0) _ ((HC.out.1.block N (row_lt HNX.out)).trans HNX.out) Try.underlying27 rfl (by kernel_rfl)
          unfold Run
          rw [rely_load 27 _ rfl q1 hld]
          exact HK.out _ _ (.inl ⟨Below.refl _ _, by decide⟩) rfl
        · intro L us ev w' hus hC hL hx hnd K hK
          have e10 : ev (.tmp 10) = _ := hx.base 10 (by kernel_rfl)
          have HK := Lib.hid hK
          have HC := Lib.hid hC
          have HL := Lib.hid hL
          have HX := Lib.hid hx
          have HUS := Lib.hid hus
          have HND := Lib.hid hnd
          have hc := hx.cst
          skip
          clear hx hK hC hL hus hnd
          unfold Run
          simp [execOp, Upon, go_sem, *]
          exact HK.out _ _ (.inl ⟨Below.refl _ _, by decide⟩) rfl
        · intro L us ev w' hus hC hL hx hnd K hK
          have e46 := hx.held 1 _ rfl (by kernel_rfl)
          change ev (.tmp 46) = _ at e46
          have HK := Lib.hid hK
          have HC := Lib.hid hC
          have HL := Lib.hid hL
          have HX := Lib.hid hx
          have HUS := Lib.hid hus
          have HND := Lib.hid hnd
          have hc := hx.cst
          skip
          clear hx hK hC hL hus hnd
          obtain ⟨c0, c1, c2, c3⟩ := four_cells ((HC.out.1.block Q (row_lt HQ.out)).trans HQ.out)
          unfold Run
          simp [execOp, Upon, go_sem, *]
          exact HK.out _ _ (.inl ⟨Below.refl _ _, by decide⟩) rfl
        · intro L us ev w' hus hC hL hx hnd K hK
          have e10 : ev (.tmp 10) = _ := hx.base 10 (by kernel_rfl)
          have HK := Lib.hid hK
          have HC := Lib.hid hC
          have HL := Lib.hid hL
          have HX := Lib.hid hx
          have HUS := Lib.hid hus
          have HND := Lib.hid hnd
          have hc := hx.cst
          skip
          clear hx hK hC hL hus hnd
          have q1 : ev (.tmp 10) = .pointer (some ⟨Q, 0, none⟩) := e10
          have hld := run_loadVar_row (P := Try.prog) w' Q 35 35 (fmA f (.slice A' f.raw.length cc)) (0, 0) _ ((HC.out.1.block Q (row_lt HQ.out)).trans HQ.out) Try.underlying35 rfl (by kernel_rfl)
          unfold Run
          rw [rely_load 35 _ rfl q1 hld]
          exact HK.out _ _ (.inl ⟨Below.refl _ _, by decide⟩) rfl
        · intro L us ev w' hus hC hL hx hnd K hK
          have e48 := hx.held 3 _ rfl (by kernel_rfl)
          change ev (.tmp 48) = _ at e48
          have HK := Lib.hid hK
          have HC := Lib.hid hC
          have HL := Lib.hid hL
          have HX := Lib.hid hx
          have HUS := Lib.hid hus
          have HND := Lib.hid hnd
          have hc := hx.cst
          have hf := hx.fn
          clear hx hK hC hL hus hnd
          have qa : ev (.tmp 48) = .agg (fmA f (.slice A' f.raw.length cc)) := e48
          unfold Run
          simp [execOp, Upon, go_sem, *]
          refine (bytes_any f (.slice A' f.raw.length cc) w' (HV0.out.below HC.out.1)).mono ?_
          rintro e w2 ⟨v2, rfl, ho, hb⟩
          refine ⟨_, rfl, HK.out _ _ (.inl ⟨hb, by decide⟩) ?_⟩
          rcases ho with ⟨h1, h2⟩ | ho
          · exact .inl ⟨h1, ownk_base h2 HC.out.1.size⟩
          · exact .inr ho
        · intro L us ev w' hus hC hL hx hnd K hK
          have e45 := hx.held 0 _ rfl (by kernel_rfl)
          have e47 := hx.held 2 _ rfl (by kernel_rfl)
          have e49 := hx.held 4 _ rfl (by kernel_rfl)
          change ev (.tmp 45) = _ at e45
          change ev (.tmp 47) = _ at e47
          change (ByP wq.heap.size (.slice A' f.raw.length cc) f : Pred) (ev (.tmp 49)) w' at e49
          have HK := Lib.hid hK
          have HC := Lib.hid hC
          have HL := Lib.hid hL
          have HX := Lib.hid hx
          have HUS := Lib.hid hus
          have HND := Lib.hid hnd
          have hc := hx.cst
          have hf := hx.fn
          clear hx hK hC hL hus hnd
          have qa : ev (.tmp 45) = .agg #[.int .i64 (P : Int), sb] := e45
          have hbr : BrT w' (.agg #[.int .i64 (P : Int), sb]) P _ := ⟨_, rfl, HKS.out.below HC.out.1⟩
          have hf9 := ByT.ofP e49 (HV0.out.below HC.out.1)
          have HBR := Lib.hid hbr
          have HF9 := Lib.hid hf9
          clear hbr hf9 e49
          unfold Run
          simp [execOp, Upon, go_sem, *]
          refine (fw_of HBR.out HKL.out HPP.out HF9.out HFX.out).mono ?_
          rintro e w2 ⟨v2, rfl, ho, hb⟩
          exact ⟨_, rfl, HK.out _ _ (.inl ⟨hb, by decide⟩) ho⟩
        · intro L us ev w' hus hC hL hx hnd K hK
          have e50 := hx.held 5 _ rfl (by kernel_rfl)
          change (FwV P K1 L1 er : Pred) (ev (.tmp 50)) w' at e50
          have HK := Lib.hid hK
          have HC := Lib.hid hC
          have HL := Lib.hid hL
          have HX := Lib.hid hx
          have HUS := Lib.hid hus
          have HND := Lib.hid hnd
          have hc := hx.cst
          skip
          clear hx hK hC hL hus hnd
          obtain ⟨x1, x2, qx, h1, h2⟩ := e50
          have H1 := Lib.hid h1
          have H2 := Lib.hid h2
          clear h1 h2
          unfold Run
          simp [execOp, Upon, go_sem, *]
          exact HK.out _ _ (.inl ⟨Below.refl _ _, by decide⟩) ⟨x1, x2, rfl, H1.out, H2.out⟩
        · intro L us ev w' hus hC hL hx hnd K hK
          have e44 := hx.held 6 _ rfl (by kernel_rfl)
          change (FwV P K1 L1 er : Pred) (ev (.tmp 44)) w' at e44
          have HK := Lib.hid hK
          have HC := Lib.hid hC
          have HL := Lib.hid hL
          have HX := Lib.hid hx
          have HUS := Lib.hid hus
          have HND := Lib.hid hnd
          have hc := hx.cst
          skip
          clear hx hK hC hL hus hnd
          obtain ⟨x1, x2, qx, h1, h2⟩ := e44
          have H1 := Lib.hid h1
          have H2 := Lib.hid h2
          clear h1 h2
          unfold Run
          simp [execOp, Upon, go_sem, *]
          exact HK.out _ _ (.inl ⟨Below.refl _ _, by decide⟩) H1.out
        · intro L us ev w' hus hC hL hx hnd K hK
          have e44 := hx.held 6 _ rfl (by kernel_rfl)
          change (FwV P K1 L1 er : Pred) (ev (.tmp 44)) w' at e44
          have HK := Lib.hid hK
          have HC := Lib.hid hC
          have HL := Lib.hid hL
          have HX := Lib.hid hx
          have HUS := Lib.hid hus
          have HND := Lib.hid hnd
          have hc := hx.cst
          skip
          clear hx hK hC hL hus hnd
          obtain ⟨x1, x2, qx, h1, h2⟩ := e44
          have H1 := Lib.hid h1
          have H2 := Lib.hid h2
          clear h1 h2
          unfold Run
          simp [execOp, Upon, go_sem, *]
          exact HK.out _ _ (.inl ⟨Below.refl _ _, by decide⟩) H2.out
        · intro L us ev w' hus hC hL hx hnd K hK
          have e44 := hx.held 6 _ rfl (by kernel_rfl)
          change (FwV P K1 L1 er : Pred) (ev (.tmp 44)) w' at e44
          have HK := Lib.hid hK
          have HC := Lib.hid hC
          have HL := Lib.hid hL
          have HX := Lib.hid hx
          have HUS := Lib.hid hus
          have HND := Lib.hid hnd
          have hc := hx.cst
          skip
          clear hx hK hC hL hus hnd
          obtain ⟨x1, x2, qx, h1, h2⟩ := e44
          have H1 := Lib.hid h1
          have H2 := Lib.hid h2
          clear h1 h2
          unfold Run
          simp [execOp, Upon, go_sem, *]
          exact HK.out _ _ (.inl ⟨Below.refl _ _, by decide⟩) rfl
        · intro L us ev w' hus hC hL hx hnd K hK
          have HK := Lib.hid hK
          have HC := Lib.hid hC
          have HL := Lib.hid hL
          have HX := Lib.hid hx
          have HUS := Lib.hid hus
          have HND := Lib.hid hnd
          have hc := hx.cst
          skip
          clear hx hK hC hL hus hnd
          have nst : L 11 = false := Bool.eq_false_iff.2 fun h => by have := HX.out.closed 11 _ 10 rfl h (by kernel_rfl); rw [HL.out] at this; cases this
          unfold Run
          simp [execOp, Upon, go_sem]
          exact HK.out _ _ (.inr ⟨HC.out.alloc nst (by decide), fun j hj hlj u hr => rl_mono (Rs := [Is (.agg #[.int .i64 (P : Int), sb]), Is (.pointer (some ⟨Q, 0, none⟩)), Is (.int .i64 f.port), Is (.agg (fmA f (.slice A' f.raw.length cc))), ByP wq.heap.size (.slice A' f.raw.length cc) f, FwV P K1 L1 er, FwV P K1 L1 er, BrV P K1, IsV L1, Is (.int .i64 er), Any, Any, IsV L1, Is (.int .i64 er)]) ⟨is_mono _, is_mono _, is_mono _, is_mono _, byP_mono _ _ _, fwV_mono _ _ _ _, fwV_mono _ _ _ _, brV_mono _ _, isV_mono _, is_mono _, any_mono, any_mono, isV_mono _, is_mono _, trivial⟩ j u _ _ ((Below.refl _ _).alloc (Nat.le_refl _) _) hr⟩) trivial
        · intro L us ev w' hus hC hL hx hnd K hK
          have e11 := hx.held 10 _ rfl (by kernel_rfl)
          have e51 := hx.held 7 _ rfl (by kernel_rfl)
          change (Any : Pred) (ev (.tmp 11)) w' at e11
          change (BrV P K1 : Pred) (ev (.tmp 51)) w' at e51
          have HK := Lib.hid hK
          have HC := Lib.hid hC
          have HL := Lib.hid hL
          have HX := Lib.hid hx
          have HUS := Lib.hid hus
          have HND := Lib.hid hnd
          have hc := hx.cst
          skip
          clear hx hK hC hL hus hnd
          have hbr : BrT w' (ev (.tmp 51)) P K1 := e51
          obtain ⟨Ax, nx, cx, qv⟩ := hbr.form
          rw [qv] at hbr
          have nst : L 11 = false := HL.out
          have lal : L 10 = true := HND.out 10 (by kernel_rfl)
          obtain ⟨g, hg, -⟩ := HC.out.2 lal
          have qp : ev (.tmp 11) = .pointer (some ⟨g, 0, none⟩) := (HUS.out 11).trans hg
          obtain ⟨hgh, hnv⟩ := HC.out.store (v := undef) lal nst hg hbr (by decide)
          have hst := run_storeVar_row (P := Try.prog) w' g 27 27 B2 #[.int .i64 (P : Int), .slice Ax nx cx] hgh (by kernel_rfl) rfl (B2_ones _ _ _ _)
          unfold Run
          rw [rely_store 27 _ _ rfl qp qv hst]
          refine HK.out _ _ (.inr ⟨hnv.agree rfl rfl rfl, fun j hj hlj u hr => ?_⟩) trivial
          rcases j with _ | _ | _ | _ | _ | _ | _ | _ | _ | _ | _ | _ | _ | _ | j
          · exact hr
          · exact hr
          · exact hr
          · exact hr
          · exact by_set hr hgh _
          · exact fw_set hr hgh _
          · exact fw_set hr hgh _
          · exact br_set hr hgh _
          · exact is_set hr hgh _
          · exact hr
          · exact trivial
          · exact absurd rfl hj
          · exact is_set hr hgh _
          · exact hr
          · exact trivial
        · intro L us ev w' hus hC hL hx hnd K hK
          have e52 := hx.held 8 _ rfl (by kernel_rfl)
          change (IsV L1 : Pred) (ev (.tmp 52)) w' at e52
          have HK := Lib.hid hK
          have HC := Lib.hid hC
          have HL := Lib.hid hL
          have HX := Lib.hid hx
          have HUS := Lib.hid hus
          have HND := Lib.hid hnd
          have hc := hx.cst
          skip
          clear hx hK hC hL hus hnd
          have h1 : IsT w' (ev (.tmp 52)) L1 := e52
          obtain ⟨Ax, cx, qx⟩ := h1.form
          rw [qx] at h1
          have H1 := Lib.hid h1
          clear h1 e52
          unfold Run
          simp [execOp, Upon, go_sem, *]
          exact HK.out _ _ (.inl ⟨Below.refl _ _, by decide⟩) H1.out
        · intro L us ev w' hus hC hL hx hnd K hK
          have e53 := hx.held 9 _ rfl (by kernel_rfl)
          change ev (.tmp 53) = _ at e53
          have HK := Lib.hid hK
          have HC := Lib.hid hC
          have HL := Lib.hid hL
          have HX := Lib.hid hx
          have HUS := Lib.hid hus
          have HND := Lib.hid hnd
          have hc := hx.cst
          skip
          clear hx hK hC hL hus hnd
          unfold Run
          simp [execOp, Upon, go_sem, *]
          exact HK.out _ _ (.inl ⟨Below.refl _ _, by decide⟩) rfl
      · exact rl_mono ⟨is_mono _, is_mono _, is_mono _, is_mono _, byP_mono _ _ _, fwV_mono _ _ _ _, fwV_mono _ _ _ _, brV_mono _ _, isV_mono _, is_mono _, any_mono, any_mono, isV_mono _, is_mono _, trivial⟩
      · exact fun L L' us us' w' h1 h2 hg => hg.agree (h1 10 (by simp)) (h1 11 (by simp)) (h2 11 (by simp))
      · exact fun L us w' w'' hb hg => hg.below hb
      · kernel_rfl
      · exact ⟨Below.refl _ _, fun h => (by cases h)⟩
      · simp
      intro us wr hG hH
      obtain ⟨-, -, -, -, -, -, -, -, -, -, -, -, h12, h13, -⟩ := hH
      simp only [fillM]
      obtain ⟨hB9, hN9⟩ := hG
      obtain ⟨gn, hgn, hgb, -, hvn⟩ := hN9 rfl
      rw [hgn]
      have HVN := Lib.hid (hvn rfl)
      have HGB := Lib.hid hgb
      have HB9 := Lib.hid hB9
      clear hB9 hN9 hgb hvn
      change (IsV L1 : Pred) (us 12) wr at h12
      change us 13 = _ at h13
      rw [h13]
      clear h13
      generalize us 45 = v45
      generalize us 46 = v46
      generalize us 47 = v47
      generalize us 48 = v48
      generalize us 49 = v49
      generalize us 50 = v50
      generalize us 44 = v44
      generalize us 51 = v51
      generalize us 52 = v52
      generalize us 53 = v53
      generalize us 12 = v12 at h12 ⊢
      clear hgn
      have HI9 := Lib.hid h12
      clear h12
      have HQ9 := Lib.hid ((HB9.out.block Q (row_lt HQ.out)).trans HQ.out)
      have HNX9 := Lib.hid ((HB9.out.block N (row_lt HNX.out)).trans HNX.out)
      have HBR := Lib.hid (HBQ.out.trans (HB9.out.mono HBQ.out.size))
      have HNG : Hid (¬ N = gn) := fun e => by have := row_lt HNX.out; have := HGB.out; omega
      obtain ⟨s1, hg1, hk1⟩ := HVN.out
      obtain ⟨A1, c1', rfl, -⟩ := id hk1
      have HG1 := Lib.hid hg1
      have HVZ : Hid (VarB N P K1 (wr.setRow N #[.int .i64 (P : Int), .slice A1 K1.length c1'])) := ⟨_, setRow_heap _ _ _ _ _ _ HNX9.out, hk1.setRow HNX9.out (by decide) _⟩
      have HIZ := Lib.hid (HI9.out.setRow HNX9.out (by decide) #[.int .i64 (P : Int), .slice A1 K1.length c1'])
      have HBZ : Hid (Below w.heap.size w (wr.setRow N #[.int .i64 (P : Int), .slice A1 K1.length c1'])) := below_setRow HBR.out HNW.out _
      have HQZ : Hid ((wr.setRow N #[.int .i64 (P : Int), .slice A1 K1.length c1']).heap[Q]? = some (.cells (fmA f (.slice A' f.raw.length cc)) 35 (0, 0))) := (setRow_other _ _ _ _ (fun e => by
        have h1 := HNX9.out
        rw [← e, HQ9.out] at h1
        injection h1 with h1
        injection h1 with _ h1
        exact absurd h1 (by decide))).trans HQ9.out
      clear hg1 hk1 HVN HGB HB9 HQ HNX HKS HQ9 HBR HI9 HBQ HV0
      go_upto_region 11 with (first | refine wpList_load_row rfl 27 _ rfl gn rfl 27 #[.int .i64 (P : Int), .slice A1 K1.length c1'] (0, 0) _ HG1.out Try.underlying27 rfl (by kernel_rfl) ?_ | refine wpList_store_row rfl 27 _ _ rfl N #[.int .i64 (P : Int), .slice A1 K1.length c1'] rfl rfl 27 _ HNX9.out (by kernel_rfl) rfl (B2_ones _ _ _ _) ?_)
      generalize wr.setRow N #[.int .i64 (P : Int), .slice A1 K1.length c1'] = wz at HVZ HIZ HBZ HQZ ⊢
      clear HG1 HNX9 HNG
      obtain ⟨Ao, co, qo, hto, -⟩ := HIZ.out
      rw [qo]
      obtain ⟨m, hm⟩ : ∃ m, L1.length = m := ⟨_, rfl⟩
      have HM := Lib.hid hm
      have hm9 : m ≤ 9 := by rw [← hm]; exact HML.out
      rw [hm]
      have HTO := Lib.hid hto
      clear qo hto hm HIZ
      go_wp2
      go_loopw [57] (fun t57 wr => ∃ q : Nat, q ≤ m ∧ t57 = .int .i64 (q : Int) ∧ wr = wz) (fun t57 _ => m - (intOf t57).toNat)
      case atStart => exact ⟨0, Nat.zero_le _, rfl, rfl⟩
      case round =>
        obtain ⟨q, hq, rfl, rfl⟩ := hrel
        by_cases hlq : q < m
        · obtain ⟨p, hp⟩ : ∃ p, L1[q]? = some p := ⟨_, List.getElem?_eq_getElem (by rw [HM.out]; exact hlq)⟩
          obtain ⟨ao, rfl, hcell⟩ := int_cells HTO.out hp
          obtain ⟨hp1, hp2⟩ := HFAIR.out p (List.mem_of_getElem? hp)
          have hp3 : ¬ (3 : Int) < (p : Int) := by have := HP4.out; omega
          have hp4 : ((p : Int) == f.port) = false := beq_eq_false_iff_ne.2 hp1
          have hp5 : ¬ (p : Int) < 0 := by omega
          obtain ⟨c0, c1, c2, c3⟩ := four_cells HQZ.out
          clear hp hp1 hp2
          go_wp2
          clear c0 c1 c2 c3 hcell
          go_roundw
          case rel => exact ⟨q + 1, by omega, by go_num, trivial⟩
          case measure => simp [intOf]; omega
        · obtain rfl : q = m := by omega
          go_wp2
          go_roundw
          case rel => exact ⟨j + 1, K1, by omega, by go_num, HVZ, HKL1, HPO1, HBZ⟩
          case measure => simp [intOf]; omega
    · obtain rfl : j = n := by omega
      obtain ⟨Ka, La, Kb, Lb, Kc, Kd, Ld, h1, h2, h3, h4, h5, h6, h7⟩ := fair_end K i k hi2 hk2
      have HFA : Hid (fwX P K (i : Int) (frB allM c44) = (Ka, La, 0)) := by show _ = _; rw [HP4.out]; exact h1
      have HFB : Hid (fwX P Ka (k : Int) (frB allM c45) = (Kb, Lb, 0)) := by show _ = _; rw [HP4.out]; exact h2
      have HFC : Hid (fwX P Kb (k : Int) (frB c44 c45) = (Kc, keepP [i] k, 0)) := by show _ = _; rw [HP4.out]; exact h3
      have HFD : Hid (fwX P Kb (k : Int) (frB allM c44) = (Kd, Ld, 0)) := by show _ = _; rw [HP4.out]; exact h4
      have HLD : Hid (Ld.length = 3) := h5
      have HKLa := Lib.hid h6
      have HKLb := Lib.hid h7
      clear h1 h2 h3 h4 h5 h6 h7
      have hwi : IntKind.i64.wrap (i : Int) = (i : Int) := IntWalk.i64_in _ ⟨by omega, by omega⟩
      have hwk : IntKind.i64.wrap (k : Int) = (k : Int) := IntWalk.i64_in _ ⟨by omega, by omega⟩
      obtain ⟨hi1, hk1⟩ := HIK.out
      obtain ⟨wc, hwc⟩ : ∃ wc, wr.alloc (.cells (macA c44) 46) = wc := ⟨_, rfl⟩
      have hbc : Below wr.heap.size wr wc := by rw [← hwc]; exact (Below.refl _ _).alloc (Nat.le_refl _) _
      have HXC : Hid (wc.heap[wr.heap.size]? = some (.cells (macA c44) 46 (0, 0))) := by rw [← hwc]; exact heap_alloc_new wr _
      have HVN := Lib.hid (HV.out.below hbc)
      have HBX := Lib.hid (HBE.out.trans (hbc.mono HBE.out.size))
      have HWC : Hid (_ = wc) := hwc
      clear hbc hwc HV HBE
      go_upto_region 20 with (fail)
      change Code.wp _ _ _ _ (wr.alloc (.cells (macA c44) 46))
      rw [HWC.out]
      clear HWC hwi hwk hi1 hk1
      generalize wr.heap.size = bc at HXC ⊢
      obtain ⟨sc, hn9, hk9⟩ := HVN.out
      have HN := Lib.hid hn9
      have HKS := Lib.hid hk9
      clear hn9 hk9 HVN
      have HXCn : Hid (¬ bc = N) := ne_mac HXC.out HN.out
      apply wp_region_relyG [10] (OldV wc N 10 #[.int .i64 (P : Int), sc] P Ka) (RL [Is (.agg #[.int .i64 (P : Int), sc]), Is (.int .i64 (i : Int)), Is (.agg (macA allM)), Is (.agg (macA c44)), OwnL wc.heap.size 14 (frB allM c44), FwV P Ka La 0, FwV P Ka La 0, BrV P Ka, IsV La, Is (.int .i64 0), Any]) [false, false, false, false, false, false, false, false, false, false, false, false, false, false, false, false, false, false, false, false, false, false, false, false, false, false, false, false, false, false, false, false, false, false, false, false, false, false, false, false, false, false, false, false, false, false, false, false, false, false, false, false, false, false, false, false, false, false, false, false, false, false, false, false, false, false, false, false, false, false, false, false, false, false, false, false, false, false, false, false, false, false, false, false, true, true, true, true, true, true, true, true, true, true, false, false, false, false, false, false, false, false, false, false, false, false, false, false, false, false, false, false, false, false, false, false, false, false, false, false, false, false, false, false, false, false, false, false, false, false, false, false, false, false, false, false, false, false, false, false, false, false, false, false, false, false, false, false, false, false, false, false, false, false, false, false, false, false, false, false, false, false]
      · kernel_rfl
      · kernel_rfl
      · kernel_rfl
      · refine ⟨?_, ?_, ?_, ?_, ?_, ?_, ?_, ?_, ?_, ?_, ?_, trivial⟩
        · intro L ev w' hC hL hx K hK
          have e7 : ev (.tmp 7) = _ := hx.base 7 (by kernel_rfl)
          have HK := Lib.hid hK
          have HC := Lib.hid hC
          have HL := Lib.hid hL
          have HX := Lib.hid hx
          have hc := hx.cst
          skip
          clear hx hK hC hL
          have nst : L 10 = false := Bool.eq_false_iff.2 fun h => by have h9 := (HX.out.closed 5 _ 0 rfl (HX.out.closed 6 _ 5 rfl (HX.out.closed 7 _ 6 rfl (HX.out.closed 10 _ 7 rfl h (by kernel_rfl)) (by kernel_rfl)) (by kernel_rfl)) (by kernel_rfl)); rw [HL.out] at h9; cases h9
          have q1 : ev (.tmp 7) = .pointer (some ⟨N, 0, none⟩) := e7
          have hld := run_loadVar_row (P := Try.prog) w' N 27 27 #[.int .i64 (P : Int), sc] (0, 0) _ (HC.out.2.1 nst) Try.underlying27 rfl (by kernel_rfl)
          unfold Run
          rw [rely_load 27 _ rfl q1 hld]
          exact HK.out _ _ (.inl ⟨Below.refl _ _, by decide⟩) rfl
        · intro L ev w' hC hL hx K hK
          have e16 : ev (.tmp 16) = _ := hx.base 16 (by kernel_rfl)
          have HK := Lib.hid hK
          have HC := Lib.hid hC
          have HL := Lib.hid hL
          have HX := Lib.hid hx
          have hc := hx.cst
          skip
          clear hx hK hC hL
          unfold Run
          simp [execOp, Upon, go_sem, *]
          exact HK.out _ _ (.inl ⟨Below.refl _ _, by decide⟩) rfl
        · intro L ev w' hC hL hx K hK
          have HK := Lib.hid hK
          have HC := Lib.hid hC
          have HL := Lib.hid hL
          have HX := Lib.hid hx
          have hc := hx.cst
          have hf := hx.fn
          clear hx hK hC hL
          unfold Run
          simp [execOp, Upon, go_sem, *]
          refine (all_any w').mono ?_
          rintro e w2 ⟨rfl, hb⟩
          exact ⟨_, rfl, HK.out _ _ (.inl ⟨hb, by decide⟩) rfl⟩
        · intro L ev w' hC hL hx K hK
          have e18 : ev (.tmp 18) = _ := hx.base 18 (by kernel_rfl)
          have HK := Lib.hid hK
          have HC := Lib.hid hC
          have HL := Lib.hid hL
          have HX := Lib.hid hx
          have hc := hx.cst
          skip
          clear hx hK hC hL
          have q1 : ev (.tmp 18) = .pointer (some ⟨bc, 0, none⟩) := e18
          have hld := run_loadVar_row (P := Try.prog) w' bc 46 46 (macA c44) (0, 0) _ ((HC.out.1.block bc (row_lt HXC.out) HXCn.out).trans HXC.out) Try.underlying46 rfl (by kernel_rfl)
          unfold Run
          rw [rely_load 46 _ rfl q1 hld]
          exact HK.out _ _ (.inl ⟨Below.refl _ _, by decide⟩) rfl
        · intro L ev w' hC hL hx K hK
          have e87 := hx.held 2 _ rfl (by kernel_rfl)
          have e88 := hx.held 3 _ rfl (by kernel_rfl)
          change ev (.tmp 87) = _ at e87
          change ev (.tmp 88) = _ at e88
          have HK := Lib.hid hK
          have HC := Lib.hid hC
          have HL := Lib.hid hL
          have HX := Lib.hid hx
          have hc := hx.cst
          have hf := hx.fn
          clear hx hK hC hL
          have qa : ev (.tmp 87) = .agg (macA allM) := e87
          have qb : ev (.tmp 88) = .agg (macA c44) := e88
          unfold Run
          simp [execOp, Upon, go_sem, *]
          refine (frame_any allM c44 w').mono ?_
          rintro e w2 ⟨A2, c2, rfl, ho, hb⟩
          exact ⟨_, rfl, HK.out _ _ (.inl ⟨hb, by decide⟩) (ownL_of (own_base ho HC.out.1.size) (by decide))⟩
        · intro L ev w' hC hL hx K hK
          have e85 := hx.held 0 _ rfl (by kernel_rfl)
          have e86 := hx.held 1 _ rfl (by kernel_rfl)
          have e89 := hx.held 4 _ rfl (by kernel_rfl)
          change ev (.tmp 85) = _ at e85
          change ev (.tmp 86) = _ at e86
          change (OwnL wc.heap.size 14 (frB allM c44) : Pred) (ev (.tmp 89)) w' at e89
          have HK := Lib.hid hK
          have HC := Lib.hid hC
          have HL := Lib.hid hL
          have HX := Lib.hid hx
          have hc := hx.cst
          have hf := hx.fn
          clear hx hK hC hL
          have qa : ev (.tmp 85) = .agg #[.int .i64 (P : Int), sc] := e85
          have hbr : BrT w' (.agg #[.int .i64 (P : Int), sc]) P _ := ⟨_, rfl, HC.out.ks HN.out HKS.out⟩
          have hf9 := byt_frame e89
          have HBR := Lib.hid hbr
          have HF9 := Lib.hid hf9
          clear hbr hf9 e89
          unfold Run
          simp [execOp, Upon, go_sem, *]
          refine (fw_of HBR.out HKL.out HPP.out HF9.out HFA.out).mono ?_
          rintro e w2 ⟨v2, rfl, ho, hb⟩
          exact ⟨_, rfl, HK.out _ _ (.inl ⟨hb, by decide⟩) ho⟩
        · intro L ev w' hC hL hx K hK
          have e90 := hx.held 5 _ rfl (by kernel_rfl)
          change (FwV P Ka La 0 : Pred) (ev (.tmp 90)) w' at e90
          have HK := Lib.hid hK
          have HC := Lib.hid hC
          have HL := Lib.hid hL
          have HX := Lib.hid hx
          have hc := hx.cst
          skip
          clear hx hK hC hL
          obtain ⟨x1, x2, qx, h1, h2⟩ := e90
          have H1 := Lib.hid h1
          have H2 := Lib.hid h2
          clear h1 h2
          unfold Run
          simp [execOp, Upon, go_sem, *]
          exact HK.out _ _ (.inl ⟨Below.refl _ _, by decide⟩) ⟨x1, x2, rfl, H1.out, H2.out⟩
        · intro L ev w' hC hL hx K hK
          have e84 := hx.held 6 _ rfl (by kernel_rfl)
          change (FwV P Ka La 0 : Pred) (ev (.tmp 84)) w' at e84
          have HK := Lib.hid hK
          have HC := Lib.hid hC
          have HL := Lib.hid hL
          have HX := Lib.hid hx
          have hc := hx.cst
          skip
          clear hx hK hC hL
          obtain ⟨x1, x2, qx, h1, h2⟩ := e84
          have H1 := Lib.hid h1
          have H2 := Lib.hid h2
          clear h1 h2
          unfold Run
          simp [execOp, Upon, go_sem, *]
          exact HK.out _ _ (.inl ⟨Below.refl _ _, by decide⟩) H1.out
        · intro L ev w' hC hL hx K hK
          have e84 := hx.held 6 _ rfl (by kernel_rfl)
          change (FwV P Ka La 0 : Pred) (ev (.tmp 84)) w' at e84
          have HK := Lib.hid hK
          have HC := Lib.hid hC
          have HL := Lib.hid hL
          have HX := Lib.hid hx
          have hc := hx.cst
          skip
          clear hx hK hC hL
          obtain ⟨x1, x2, qx, h1, h2⟩ := e84
          have H1 := Lib.hid h1
          have H2 := Lib.hid h2
          clear h1 h2
          unfold Run
          simp [execOp, Upon, go_sem, *]
          exact HK.out _ _ (.inl ⟨Below.refl _ _, by decide⟩) H2.out
        · intro L ev w' hC hL hx K hK
          have e84 := hx.held 6 _ rfl (by kernel_rfl)
          change (FwV P Ka La 0 : Pred) (ev (.tmp 84)) w' at e84
          have HK := Lib.hid hK
          have HC := Lib.hid hC
          have HL := Lib.hid hL
          have HX := Lib.hid hx
          have hc := hx.cst
          skip
          clear hx hK hC hL
          obtain ⟨x1, x2, qx, h1, h2⟩ := e84
          have H1 := Lib.hid h1
          have H2 := Lib.hid h2
          clear h1 h2
          unfold Run
          simp [execOp, Upon, go_sem, *]
          exact HK.out _ _ (.inl ⟨Below.refl _ _, by decide⟩) rfl
        · intro L ev w' hC hL hx K hK
          have e7 : ev (.tmp 7) = _ := hx.base 7 (by kernel_rfl)
          have e91 := hx.held 7 _ rfl (by kernel_rfl)
          change (BrV P Ka : Pred) (ev (.tmp 91)) w' at e91
          have HK := Lib.hid hK
          have HC := Lib.hid hC
          have HL := Lib.hid hL
          have HX := Lib.hid hx
          have hc := hx.cst
          skip
          clear hx hK hC hL
          have hbr : BrT w' (ev (.tmp 91)) P Ka := e91
          obtain ⟨Ax, nx, cx, qv⟩ := hbr.form
          rw [qv] at hbr
          have nst : L 10 = false := HL.out
          have qp : ev (.tmp 7) = .pointer (some ⟨N, 0, none⟩) := e7
          obtain ⟨hgh, hnv⟩ := HC.out.store nst hbr rfl
          have hst := run_storeVar_row (P := Try.prog) w' N 27 27 #[.int .i64 (P : Int), sc] #[.int .i64 (P : Int), .slice Ax nx cx] hgh (by kernel_rfl) rfl (B2_ones _ _ _ _)
          unfold Run
          rw [rely_store 27 _ _ rfl qp qv hst]
          refine HK.out _ _ (.inr ⟨hnv, fun j hj hlj u hr => ?_⟩) trivial
          rcases j with _ | _ | _ | _ | _ | _ | _ | _ | _ | _ | _ | j
          · exact hr
          · exact hr
          · exact hr
          · exact hr
          · exact ow_set hr hgh _
          · exact fw_set hr hgh _
          · exact fw_set hr hgh _
          · exact br_set hr hgh _
          · exact is_set hr hgh _
          · exact hr
          · exact absurd rfl hj
          · exact trivial
      · exact rl_mono ⟨is_mono _, is_mono _, is_mono _, is_mono _, ownL_mono _ _ _, fwV_mono _ _ _ _, fwV_mono _ _ _ _, brV_mono _ _, isV_mono _, is_mono _, any_mono, trivial⟩
      · exact fun L L' w' h1 hg => hg.agree (h1 10 (by simp))
      · exact fun L w' w'' hb hg => hg.below hb
      · exact ⟨Gro.refl _, fun _ => HN.out, fun h => (by cases h)⟩
      · simp
      intro us wr hG hH
      obtain ⟨-, -, -, -, -, -, -, -, -, -, -, -⟩ := hH
      simp only [fillM]
      obtain ⟨hG9, -, hvn⟩ := hG
      have HVN := Lib.hid (hvn rfl)
      have HG9 := Lib.hid hG9
      clear hG9 hvn
      generalize us 85 = v85
      generalize us 86 = v86
      generalize us 87 = v87
      generalize us 88 = v88
      generalize us 89 = v89
      generalize us 90 = v90
      generalize us 84 = v84
      generalize us 91 = v91
      generalize us 92 = v92
      generalize us 93 = v93
      generalize wr = wd at HVN HG9 ⊢
      have HXC := Lib.hid ((HG9.out.block bc (row_lt HXC.out) HXCn.out).trans HXC.out)
      have HBX : Hid (Below w.heap.size w wd) := HBX.out.trans (HG9.out.below (fun k hk => by rw [hk]; exact HNW.out) HBX.out.size)
      clear HG9 HKS HN
      obtain ⟨sd, hn9, hk9⟩ := HVN.out
      have HN := Lib.hid hn9
      have HKS := Lib.hid hk9
      clear hn9 hk9 HVN
      go_upto_region 21 with (fail)
      apply wp_region_relyG [10] (OldV wd N 10 #[.int .i64 (P : Int), sd] P Kb) (RL [Is (.agg #[.int .i64 (P : Int), sd]), Is (.int .i64 (k : Int)), Is (.agg (macA allM)), Is (.agg (macA c45)), OwnL wd.heap.size 14 (frB allM c45), FwV P Kb Lb 0, FwV P Kb Lb 0, BrV P Kb, IsV Lb, Is (.int .i64 0), Any]) [false, false, false, false, false, false, false, false, false, false, false, false, false, false, false, false, false, false, false, false, false, false, false, false, false, false, false, false, false, false, false, false, false, false, false, false, false, false, false, false, false, false, false, false, false, false, false, false, false, false, false, false, false, false, false, false, false, false, false, false, false, false, false, false, false, false, false, false, false, false, false, false, false, false, false, false, false, false, false, false, false, false, false, false, false, false, false, false, false, false, false, false, false, false, true, true, true, true, true, true, true, true, true, true, false, false, false, false, false, false, false, false, false, false, false, false, false, false, false, false, false, false, false, false, false, false, false, false, false, false, false, false, false, false, false, false, false, false, false, false, false, false, false, false, false, false, false, false, false, false, false, false, false, false, false, false, false, false, false, false, false, false]
      · kernel_rfl
      · kernel_rfl
      · kernel_rfl
      · refine ⟨?_, ?_, ?_, ?_, ?_, ?_, ?_, ?_, ?_, ?_, ?_, trivial⟩
        · intro L ev w' hC hL hx K hK
          have e7 : ev (.tmp 7) = _ := hx.base 7 (by kernel_rfl)
          have HK := Lib.hid hK
          have HC := Lib.hid hC
          have HL := Lib.hid hL
          have HX := Lib.hid hx
          have hc := hx.cst
          skip
          clear hx hK hC hL
          have nst : L 10 = false := Bool.eq_false_iff.2 fun h => by have h9 := (HX.out.closed 5 _ 0 rfl (HX.out.closed 6 _ 5 rfl (HX.out.closed 7 _ 6 rfl (HX.out.closed 10 _ 7 rfl h (by kernel_rfl)) (by kernel_rfl)) (by kernel_rfl)) (by kernel_rfl)); rw [HL.out] at h9; cases h9
          have q1 : ev (.tmp 7) = .pointer (some ⟨N, 0, none⟩) := e7
          have hld := run_loadVar_row (P := Try.prog) w' N 27 27 #[.int .i64 (P : Int), sd] (0, 0) _ (HC.out.2.1 nst) Try.underlying27 rfl (by kernel_rfl)
          unfold Run
          rw [rely_load 27 _ rfl q1 hld]
          exact HK.out _ _ (.inl ⟨Below.refl _ _, by decide⟩) rfl
        · intro L ev w' hC hL hx K hK
          have e17 : ev (.tmp 17) = _ := hx.base 17 (by kernel_rfl)
          have HK := Lib.hid hK
          have HC := Lib.hid hC
          have HL := Lib.hid hL
          have HX := Lib.hid hx
          have hc := hx.cst
          skip
          clear hx hK hC hL
          unfold Run
          simp [execOp, Upon, go_sem, *]
          exact HK.out _ _ (.inl ⟨Below.refl _ _, by decide⟩) rfl
        · intro L ev w' hC hL hx K hK
          have HK := Lib.hid hK
          have HC := Lib.hid hC
          have HL := Lib.hid hL
          have HX := Lib.hid hx
          have hc := hx.cst
          have hf := hx.fn
          clear hx hK hC hL
          unfold Run
          simp [execOp, Upon, go_sem, *]
          refine (all_any w').mono ?_
          rintro e w2 ⟨rfl, hb⟩
          exact ⟨_, rfl, HK.out _ _ (.inl ⟨hb, by decide⟩) rfl⟩
        · intro L ev w' hC hL hx K hK
          have HK := Lib.hid hK
          have HC := Lib.hid hC
          have HL := Lib.hid hL
          have HX := Lib.hid hx
          have hc := hx.cst
          skip
          clear hx hK hC hL
          unfold Run
          simp [execOp, Upon, go_sem, *]
          exact HK.out _ _ (.inl ⟨Below.refl _ _, by decide⟩) rfl
        · intro L ev w' hC hL hx K hK
          have e97 := hx.held 2 _ rfl (by kernel_rfl)
          have e98 := hx.held 3 _ rfl (by kernel_rfl)
          change ev (.tmp 97) = _ at e97
          change ev (.tmp 98) = _ at e98
          have HK := Lib.hid hK
          have HC := Lib.hid hC
          have HL := Lib.hid hL
          have HX := Lib.hid hx
          have hc := hx.cst
          have hf := hx.fn
          clear hx hK hC hL
          have qa : ev (.tmp 97) = .agg (macA allM) := e97
          have qb : ev (.tmp 98) = .agg (macA c45) := e98
          unfold Run
          simp [execOp, Upon, go_sem, *]
          refine (frame_any allM c45 w').mono ?_
          rintro e w2 ⟨A2, c2, rfl, ho, hb⟩
          exact ⟨_, rfl, HK.out _ _ (.inl ⟨hb, by decide⟩) (ownL_of (own_base ho HC.out.1.size) (by decide))⟩
        · intro L ev w' hC hL hx K hK
          have e95 := hx.held 0 _ rfl (by kernel_rfl)
          have e96 := hx.held 1 _ rfl (by kernel_rfl)
          have e99 := hx.held 4 _ rfl (by kernel_rfl)
          change ev (.tmp 95) = _ at e95
          change ev (.tmp 96) = _ at e96
          change (OwnL wd.heap.size 14 (frB allM c45) : Pred) (ev (.tmp 99)) w' at e99
          have HK := Lib.hid hK
          have HC := Lib.hid hC
          have HL := Lib.hid hL
          have HX := Lib.hid hx
          have hc := hx.cst
          have hf := hx.fn
          clear hx hK hC hL
          have qa : ev (.tmp 95) = .agg #[.int .i64 (P : Int), sd] := e95
          have hbr : BrT w' (.agg #[.int .i64 (P : Int), sd]) P _ := ⟨_, rfl, HC.out.ks HN.out HKS.out⟩
          have hf9 := byt_frame e99
          have HBR := Lib.hid hbr
          have HF9 := Lib.hid hf9
          clear hbr hf9 e99
          unfold Run
          simp [execOp, Upon, go_sem, *]
          refine (fw_of HBR.out HKLa.out HPP.out HF9.out HFB.out).mono ?_
          rintro e w2 ⟨v2, rfl, ho, hb⟩
          exact ⟨_, rfl, HK.out _ _ (.inl ⟨hb, by decide⟩) ho⟩
        · intro L ev w' hC hL hx K hK
          have e100 := hx.held 5 _ rfl (by kernel_rfl)
          change (FwV P Kb Lb 0 : Pred) (ev (.tmp 100)) w' at e100
          have HK := Lib.hid hK
          have HC := Lib.hid hC
          have HL := Lib.hid hL
          have HX := Lib.hid hx
          have hc := hx.cst
          skip
          clear hx hK hC hL
          obtain ⟨x1, x2, qx, h1, h2⟩ := e100
          have H1 := Lib.hid h1
          have H2 := Lib.hid h2
          clear h1 h2
          unfold Run
          simp [execOp, Upon, go_sem, *]
          exact HK.out _ _ (.inl ⟨Below.refl _ _, by decide⟩) ⟨x1, x2, rfl, H1.out, H2.out⟩
        · intro L ev w' hC hL hx K hK
          have e94 := hx.held 6 _ rfl (by kernel_rfl)
          change (FwV P Kb Lb 0 : Pred) (ev (.tmp 94)) w' at e94
          have HK := Lib.hid hK
          have HC := Lib.hid hC
          have HL := Lib.hid hL
          have HX := Lib.hid hx
          have hc := hx.cst
          skip
          clear hx hK hC hL
          obtain ⟨x1, x2, qx, h1, h2⟩ := e94
          have H1 := Lib.hid h1
          have H2 := Lib.hid h2
          clear h1 h2
          unfold Run
          simp [execOp, Upon, go_sem, *]
          exact HK.out _ _ (.inl ⟨Below.refl _ _, by decide⟩) H1.out
        · intro L ev w' hC hL hx K hK
          have e94 := hx.held 6 _ rfl (by kernel_rfl)
          change (FwV P Kb Lb 0 : Pred) (ev (.tmp 94)) w' at e94
          have HK := Lib.hid hK
          have HC := Lib.hid hC
          have HL := Lib.hid hL
          have HX := Lib.hid hx
          have hc := hx.cst
          skip
          clear hx hK hC hL
          obtain ⟨x1, x2, qx, h1, h2⟩ := e94
          have H1 := Lib.hid h1
          have H2 := Lib.hid h2
          clear h1 h2
          unfold Run
          simp [execOp, Upon, go_sem, *]
          exact HK.out _ _ (.inl ⟨Below.refl _ _, by decide⟩) H2.out
        · intro L ev w' hC hL hx K hK
          have e94 := hx.held 6 _ rfl (by kernel_rfl)
          change (FwV P Kb Lb 0 : Pred) (ev (.tmp 94)) w' at e94
          have HK := Lib.hid hK
          have HC := Lib.hid hC
          have HL := Lib.hid hL
          have HX := Lib.hid hx
          have hc := hx.cst
          skip
          clear hx hK hC hL
          obtain ⟨x1, x2, qx, h1, h2⟩ := e94
          have H1 := Lib.hid h1
          have H2 := Lib.hid h2
          clear h1 h2
          unfold Run
          simp [execOp, Upon, go_sem, *]
          exact HK.out _ _ (.inl ⟨Below.refl _ _, by decide⟩) rfl
        · intro L ev w' hC hL hx K hK
          have e7 : ev (.tmp 7) = _ := hx.base 7 (by kernel_rfl)
          have e101 := hx.held 7 _ rfl (by kernel_rfl)
          change (BrV P Kb : Pred) (ev (.tmp 101)) w' at e101
          have HK := Lib.hid hK
          have HC := Lib.hid hC
          have HL := Lib.hid hL
          have HX := Lib.hid hx
          have hc := hx.cst
          skip
          clear hx hK hC hL
          have hbr : BrT w' (ev (.tmp 101)) P Kb := e101
          obtain ⟨Ax, nx, cx, qv⟩ := hbr.form
          rw [qv] at hbr
          have nst : L 10 = false := HL.out
          have qp : ev (.tmp 7) = .pointer (some ⟨N, 0, none⟩) := e7
          obtain ⟨hgh, hnv⟩ := HC.out.store nst hbr rfl
          have hst := run_storeVar_row (P := Try.prog) w' N 27 27 #[.int .i64 (P : Int), sd] #[.int .i64 (P : Int), .slice Ax nx cx] hgh (by kernel_rfl) rfl (B2_ones _ _ _ _)
          unfold Run
          rw [rely_store 27 _ _ rfl qp qv hst]
          refine HK.out _ _ (.inr ⟨hnv, fun j hj hlj u hr => ?_⟩) trivial
          rcases j with _ | _ | _ | _ | _ | _ | _ | _ | _ | _ | _ | j
          · exact hr
          · exact hr
          · exact hr
          · exact hr
          · exact ow_set hr hgh _
          · exact fw_set hr hgh _
          · exact fw_set hr hgh _
          · exact br_set hr hgh _
          · exact is_set hr hgh _
          · exact hr
          · exact absurd rfl hj
          · exact trivial
      · exact rl_mono ⟨is_mono _, is_mono _, is_mono _, is_mono _, ownL_mono _ _ _, fwV_mono _ _ _ _, fwV_mono _ _ _ _, brV_mono _ _, isV_mono _, is_mono _, any_mono, trivial⟩
      · exact fun L L' w' h1 hg => hg.agree (h1 10 (by simp))
      · exact fun L w' w'' hb hg => hg.below hb
      · exact ⟨Gro.refl _, fun _ => HN.out, fun h => (by cases h)⟩
      · simp
      intro us wr hG hH
      obtain ⟨-, -, -, -, -, -, -, -, -, -, -, -⟩ := hH
      simp only [fillM]
      obtain ⟨hG9, -, hvn⟩ := hG
      have HVN := Lib.hid (hvn rfl)
      have HG9 := Lib.hid hG9
      clear hG9 hvn
      generalize us 95 = v95
      generalize us 96 = v96
      generalize us 97 = v97
      generalize us 98 = v98
      generalize us 99 = v99
      generalize us 100 = v100
      generalize us 94 = v94
      generalize us 101 = v101
      generalize us 102 = v102
      generalize us 103 = v103
      generalize wr = we at HVN HG9 ⊢
      have HXC := Lib.hid ((HG9.out.block bc (row_lt HXC.out) HXCn.out).trans HXC.out)
      have HBX : Hid (Below w.heap.size w we) := HBX.out.trans (HG9.out.below (fun k hk => by rw [hk]; exact HNW.out) HBX.out.size)
      clear HG9 HKS HN
      obtain ⟨se, hn9, hk9⟩ := HVN.out
      have HN := Lib.hid hn9
      have HKS := Lib.hid hk9
      clear hn9 hk9 HVN
      go_upto_region 22 with (fail)
      apply wp_region_relyV [10, 11] [19] (NewV we 10 11 19 P Kc) (RL [Is (.agg #[.int .i64 (P : Int), se]), Is (.int .i64 (k : Int)), Is (.agg (macA c44)), Is (.agg (macA c45)), OwnL we.heap.size 14 (frB c44 c45), FwV P Kc (keepP [i] k) 0, FwV P Kc (keepP [i] k) 0, BrV P Kc, IsV (keepP [i] k), Is (.int .i64 0), Any, Any, IsV (keepP [i] k), Is (.int .i64 0)]) [false, false, false, false, false, false, false, false, true, false, false, false, false, false, false, false, false, false, false, true, true, false, false, false, false, false, false, false, false, false, false, false, false, false, false, false, false, false, false, false, false, false, false, false, false, false, false, false, false, false, false, false, false, false, false, false, false, false, false, false, false, false, false, false, false, false, false, false, false, false, false, false, false, false, false, false, false, false, false, false, false, false, false, false, false, false, false, false, false, false, false, false, false, false, false, false, false, false, false, false, false, false, false, false, true, true, true, true, true, true, true, true, true, true, false, false, false, false, false, false, false, false, false, false, false, false, false, false, false, false, false, false, false, false, false, false, false, false, false, false, false, false, false, false, false, false, false, false, false, false, false, false, false, false, false, false, false, false, false, false, false, false]
      · kernel_rfl
      · kernel_rfl
      · kernel_rfl
      · refine ⟨?_, ?_, ?_, ?_, ?_, ?_, ?_, ?_, ?_, ?_, ?_, ?_, ?_, ?_, trivial⟩
        · intro L us ev w' hus hC hL hx hnd K hK
          have e7 : ev (.tmp 7) = _ := hx.base 7 (by kernel_rfl)
          have HK := Lib.hid hK
          have HC := Lib.hid hC
          have HL := Lib.hid hL
          have HX := Lib.hid hx
          have HUS := Lib.hid hus
          have HND := Lib.hid hnd
          have hc := hx.cst
          skip
          clear hx hK hC hL hus hnd
          have q1 : ev (.tmp 7) = .pointer (some ⟨N, 0, none⟩) := e7
          have hld := run_loadVar_row (P := Try.prog) w' N 27 27 #[.int .i64 (P : Int), se] (0, 0) _ ((HC.out.1.block N (row_lt HN.out)).trans HN.out) Try.underlying27 rfl (by kernel_rfl)
          unfold Run
          rw [rely_load 27 _ rfl q1 hld]
          exact HK.out _ _ (.inl ⟨Below.refl _ _, by decide⟩) rfl
        · intro L us ev w' hus hC hL hx hnd K hK
          have e17 : ev (.tmp 17) = _ := hx.base 17 (by kernel_rfl)
          have HK := Lib.hid hK
          have HC := Lib.hid hC
          have HL := Lib.hid hL
          have HX := Lib.hid hx
          have HUS := Lib.hid hus
          have HND := Lib.hid hnd
          have hc := hx.cst
          skip
          clear hx hK hC hL hus hnd
          unfold Run
          simp [execOp, Upon, go_sem, *]
          exact HK.out _ _ (.inl ⟨Below.refl _ _, by decide⟩) rfl
        · intro L us ev w' hus hC hL hx hnd K hK
          have e18 : ev (.tmp 18) = _ := hx.base 18 (by kernel_rfl)
          have HK := Lib.hid hK
          have HC := Lib.hid hC
          have HL := Lib.hid hL
          have HX := Lib.hid hx
          have HUS := Lib.hid hus
          have HND := Lib.hid hnd
          have hc := hx.cst
          skip
          clear hx hK hC hL hus hnd
          have q1 : ev (.tmp 18) = .pointer (some ⟨bc, 0, none⟩) := e18
          have hld := run_loadVar_row (P := Try.prog) w' bc 46 46 (macA c44) (0, 0) _ ((HC.out.1.block bc (row_lt HXC.out)).trans HXC.out) Try.underlying46 rfl (by kernel_rfl)
          unfold Run
          rw [rely_load 46 _ rfl q1 hld]
          exact HK.out _ _ (.inl ⟨Below.refl _ _, by decide⟩) rfl
        · intro L us ev w' hus hC hL hx hnd K hK
          have HK := Lib.hid hK
          have HC := Lib.hid hC
          have HL := Lib.hid hL
          have HX := Lib.hid hx
          have HUS := Lib.hid hus
          have HND := Lib.hid hnd
          have hc := hx.cst
          skip
          clear hx hK hC hL hus hnd
          unfold Run
          simp [execOp, Upon, go_sem, *]
          exact HK.out _ _ (.inl ⟨Below.refl _ _, by decide⟩) rfl
        · intro L us ev w' hus hC hL hx hnd K hK
          have e107 := hx.held 2 _ rfl (by kernel_rfl)
          have e108 := hx.held 3 _ rfl (by kernel_rfl)
          change ev (.tmp 107) = _ at e107
          change ev (.tmp 108) = _ at e108
          have HK := Lib.hid hK
          have HC := Lib.hid hC
          have HL := Lib.hid hL
          have HX := Lib.hid hx
          have HUS := Lib.hid hus
          have HND := Lib.hid hnd
          have hc := hx.cst
          have hf := hx.fn
          clear hx hK hC hL hus hnd
          have qa : ev (.tmp 107) = .agg (macA c44) := e107
          have qb : ev (.tmp 108) = .agg (macA c45) := e108
          unfold Run
          simp [execOp, Upon, go_sem, *]
          refine (frame_any c44 c45 w').mono ?_
          rintro e w2 ⟨A2, c2, rfl, ho, hb⟩
          exact ⟨_, rfl, HK.out _ _ (.inl ⟨hb, by decide⟩) (ownL_of (own_base ho HC.out.1.size) (by decide))⟩
        · intro L us ev w' hus hC hL hx hnd K hK
          have e105 := hx.held 0 _ rfl (by kernel_rfl)
          have e106 := hx.held 1 _ rfl (by kernel_rfl)
          have e109 := hx.held 4 _ rfl (by kernel_rfl)
          change ev (.tmp 105) = _ at e105
          change ev (.tmp 106) = _ at e106
          change (OwnL we.heap.size 14 (frB c44 c45) : Pred) (ev (.tmp 109)) w' at e109
          have HK := Lib.hid hK
          have HC := Lib.hid hC
          have HL := Lib.hid hL
          have HX := Lib.hid hx
          have HUS := Lib.hid hus
          have HND := Lib.hid hnd
          have hc := hx.cst
          have hf := hx.fn
          clear hx hK hC hL hus hnd
          have qa : ev (.tmp 105) = .agg #[.int .i64 (P : Int), se] := e105
          have hbr : BrT w' (.agg #[.int .i64 (P : Int), se]) P _ := ⟨_, rfl, HKS.out.below HC.out.1⟩
          have hf9 := byt_frame e109
          have HBR := Lib.hid hbr
          have HF9 := Lib.hid hf9
          clear hbr hf9 e109
          unfold Run
          simp [execOp, Upon, go_sem, *]
          refine (fw_of HBR.out HKLb.out HPP.out HF9.out HFC.out).mono ?_
          rintro e w2 ⟨v2, rfl, ho, hb⟩
          exact ⟨_, rfl, HK.out _ _ (.inl ⟨hb, by decide⟩) ho⟩
        · intro L us ev w' hus hC hL hx hnd K hK
          have e110 := hx.held 5 _ rfl (by kernel_rfl)
          change (FwV P Kc (keepP [i] k) 0 : Pred) (ev (.tmp 110)) w' at e110
          have HK := Lib.hid hK
          have HC := Lib.hid hC
          have HL := Lib.hid hL
          have HX := Lib.hid hx
          have HUS := Lib.hid hus
          have HND := Lib.hid hnd
          have hc := hx.cst
          skip
          clear hx hK hC hL hus hnd
          obtain ⟨x1, x2, qx, h1, h2⟩ := e110
          have H1 := Lib.hid h1
          have H2 := Lib.hid h2
          clear h1 h2
          unfold Run
          simp [execOp, Upon, go_sem, *]
          exact HK.out _ _ (.inl ⟨Below.refl _ _, by decide⟩) ⟨x1, x2, rfl, H1.out, H2.out⟩
        · intro L us ev w' hus hC hL hx hnd K hK
          have e104 := hx.held 6 _ rfl (by kernel_rfl)
          change (FwV P Kc (keepP [i] k) 0 : Pred) (ev (.tmp 104)) w' at e104
          have HK := Lib.hid hK
          have HC := Lib.hid hC
          have HL := Lib.hid hL
          have HX := Lib.hid hx
          have HUS := Lib.hid hus
          have HND := Lib.hid hnd
          have hc := hx.cst
          skip
          clear hx hK hC hL hus hnd
          obtain ⟨x1, x2, qx, h1, h2⟩ := e104
          have H1 := Lib.hid h1
          have H2 := Lib.hid h2
          clear h1 h2
          unfold Run
          simp [execOp, Upon, go_sem, *]
          exact HK.out _ _ (.inl ⟨Below.refl _ _, by decide⟩) H1.out
        · intro L us ev w' hus hC hL hx hnd K hK
          have e104 := hx.held 6 _ rfl (by kernel_rfl)
          change (FwV P Kc (keepP [i] k) 0 : Pred) (ev (.tmp 104)) w' at e104
          have HK := Lib.hid hK
          have HC := Lib.hid hC
          have HL := Lib.hid hL
          have HX := Lib.hid hx
          have HUS := Lib.hid hus
          have HND := Lib.hid hnd
          have hc := hx.cst
          skip
          clear hx hK hC hL hus hnd
          obtain ⟨x1, x2, qx, h1, h2⟩ := e104
          have H1 := Lib.hid h1
          have H2 := Lib.hid h2
          clear h1 h2
          unfold Run
          simp [execOp, Upon, go_sem, *]
          exact HK.out _ _ (.inl ⟨Below.refl _ _, by decide⟩) H2.out
        · intro L us ev w' hus hC hL hx hnd K hK
          have e104 := hx.held 6 _ rfl (by kernel_rfl)
          change (FwV P Kc (keepP [i] k) 0 : Pred) (ev (.tmp 104)) w' at e104
          have HK := Lib.hid hK
          have HC := Lib.hid hC
          have HL := Lib.hid hL
          have HX := Lib.hid hx
          have HUS := Lib.hid hus
          have HND := Lib.hid hnd
          have hc := hx.cst
          skip
          clear hx hK hC hL hus hnd
          obtain ⟨x1, x2, qx, h1, h2⟩ := e104
          have H1 := Lib.hid h1
          have H2 := Lib.hid h2
          clear h1 h2
          unfold Run
          simp [execOp, Upon, go_sem, *]
          exact HK.out _ _ (.inl ⟨Below.refl _ _, by decide⟩) rfl
        · intro L us ev w' hus hC hL hx hnd K hK
          have HK := Lib.hid hK
          have HC := Lib.hid hC
          have HL := Lib.hid hL
          have HX := Lib.hid hx
          have HUS := Lib.hid hus
          have HND := Lib.hid hnd
          have hc := hx.cst
          skip
          clear hx hK hC hL hus hnd
          have nst : L 11 = false := Bool.eq_false_iff.2 fun h => by have := HX.out.closed 11 _ 10 rfl h (by kernel_rfl); rw [HL.out] at this; cases this
          unfold Run
          simp [execOp, Upon, go_sem]
          exact HK.out _ _ (.inr ⟨HC.out.alloc nst (by decide), fun j hj hlj u hr => rl_mono (Rs := [Is (.agg #[.int .i64 (P : Int), se]), Is (.int .i64 (k : Int)), Is (.agg (macA c44)), Is (.agg (macA c45)), OwnL we.heap.size 14 (frB c44 c45), FwV P Kc (keepP [i] k) 0, FwV P Kc (keepP [i] k) 0, BrV P Kc, IsV (keepP [i] k), Is (.int .i64 0), Any, Any, IsV (keepP [i] k), Is (.int .i64 0)]) ⟨is_mono _, is_mono _, is_mono _, is_mono _, ownL_mono _ _ _, fwV_mono _ _ _ _, fwV_mono _ _ _ _, brV_mono _ _, isV_mono _, is_mono _, any_mono, any_mono, isV_mono _, is_mono _, trivial⟩ j u _ _ ((Below.refl _ _).alloc (Nat.le_refl _) _) hr⟩) trivial
        · intro L us ev w' hus hC hL hx hnd K hK
          have e19 := hx.held 10 _ rfl (by kernel_rfl)
          have e111 := hx.held 7 _ rfl (by kernel_rfl)
          change (Any : Pred) (ev (.tmp 19)) w' at e19
          change (BrV P Kc : Pred) (ev (.tmp 111)) w' at e111
          have HK := Lib.hid hK
          have HC := Lib.hid hC
          have HL := Lib.hid hL
          have HX := Lib.hid hx
          have HUS := Lib.hid hus
          have HND := Lib.hid hnd
          have hc := hx.cst
          skip
          clear hx hK hC hL hus hnd
          have hbr : BrT w' (ev (.tmp 111)) P Kc := e111
          obtain ⟨Ax, nx, cx, qv⟩ := hbr.form
          rw [qv] at hbr
          have nst : L 11 = false := HL.out
          have lal : L 10 = true := HND.out 10 (by kernel_rfl)
          obtain ⟨g, hg, -⟩ := HC.out.2 lal
          have qp : ev (.tmp 19) = .pointer (some ⟨g, 0, none⟩) := (HUS.out 19).trans hg
          obtain ⟨hgh, hnv⟩ := HC.out.store (v := undef) lal nst hg hbr (by decide)
          have hst := run_storeVar_row (P := Try.prog) w' g 27 27 B2 #[.int .i64 (P : Int), .slice Ax nx cx] hgh (by kernel_rfl) rfl (B2_ones _ _ _ _)
          unfold Run
          rw [rely_store 27 _ _ rfl qp qv hst]
          refine HK.out _ _ (.inr ⟨hnv.agree rfl rfl rfl, fun j hj hlj u hr => ?_⟩) trivial
          rcases j with _ | _ | _ | _ | _ | _ | _ | _ | _ | _ | _ | _ | _ | _ | j
          · exact hr
          · exact hr
          · exact hr
          · exact hr
          · exact ow_set hr hgh _
          · exact fw_set hr hgh _
          · exact fw_set hr hgh _
          · exact br_set hr hgh _
          · exact is_set hr hgh _
          · exact hr
          · exact trivial
          · exact absurd rfl hj
          · exact is_set hr hgh _
          · exact hr
          · exact trivial
        · intro L us ev w' hus hC hL hx hnd K hK
          have e112 := hx.held 8 _ rfl (by kernel_rfl)
          change (IsV (keepP [i] k) : Pred) (ev (.tmp 112)) w' at e112
          have HK := Lib.hid hK
          have HC := Lib.hid hC
          have HL := Lib.hid hL
          have HX := Lib.hid hx
          have HUS := Lib.hid hus
          have HND := Lib.hid hnd
          have hc := hx.cst
          skip
          clear hx hK hC hL hus hnd
          have h1 : IsT w' (ev (.tmp 112)) (keepP [i] k) := e112
          obtain ⟨Ax, cx, qx⟩ := h1.form
          rw [qx] at h1
          have H1 := Lib.hid h1
          clear h1 e112
          unfold Run
          simp [execOp, Upon, go_sem, *]
          exact HK.out _ _ (.inl ⟨Below.refl _ _, by decide⟩) H1.out
        · intro L us ev w' hus hC hL hx hnd K hK
          have e113 := hx.held 9 _ rfl (by kernel_rfl)
          change ev (.tmp 113) = _ at e113
          have HK := Lib.hid hK
          have HC := Lib.hid hC
          have HL := Lib.hid hL
          have HX := Lib.hid hx
          have HUS := Lib.hid hus
          have HND := Lib.hid hnd
          have hc := hx.cst
          skip
          clear hx hK hC hL hus hnd
          unfold Run
          simp [execOp, Upon, go_sem, *]
          exact HK.out _ _ (.inl ⟨Below.refl _ _, by decide⟩) rfl
      · exact rl_mono ⟨is_mono _, is_mono _, is_mono _, is_mono _, ownL_mono _ _ _, fwV_mono _ _ _ _, fwV_mono _ _ _ _, brV_mono _ _, isV_mono _, is_mono _, any_mono, any_mono, isV_mono _, is_mono _, trivial⟩
      · exact fun L L' us us' w' h1 h2 hg => hg.agree (h1 10 (by simp)) (h1 11 (by simp)) (h2 19 (by simp))
      · exact fun L us w' w'' hb hg => hg.below hb
      · kernel_rfl
      · exact ⟨Below.refl _ _, fun h => (by cases h)⟩
      · simp
      intro us wr hG hH
      obtain ⟨-, -, -, -, -, -, -, -, -, -, -, -, h12, h13, -⟩ := hH
      simp only [fillM]
      obtain ⟨hB9, hN9⟩ := hG
      obtain ⟨gn, hgn, hgb, -, hvn⟩ := hN9 rfl
      rw [hgn]
      have HVN := Lib.hid (hvn rfl)
      have HGB := Lib.hid hgb
      have HB9 := Lib.hid hB9
      clear hB9 hN9 hgb hvn
      change (IsV (keepP [i] k) : Pred) (us 20) wr at h12
      change us 8 = _ at h13
      rw [h13]
      clear h13
      generalize us 105 = v105
      generalize us 106 = v106
      generalize us 107 = v107
      generalize us 108 = v108
      generalize us 109 = v109
      generalize us 110 = v110
      generalize us 104 = v104
      generalize us 111 = v111
      generalize us 112 = v112
      generalize us 113 = v113
      generalize us 20 = v20 at h12 ⊢
      clear hgn
      have HI9 := Lib.hid h12
      clear h12
      generalize wr = wf at HVN HGB HB9 HI9 ⊢
      have HXC := Lib.hid (old_below HXC.out HB9.out (row_lt HXC.out))
      have HN := Lib.hid (old_below HN.out HB9.out (row_lt HN.out))
      have HKS := Lib.hid (HKS.out.below HB9.out)
      have HBX := Lib.hid (HBX.out.trans (HB9.out.mono HBX.out.size))
      have HI5 := HI9
      clear HI9 HVN HGB HB9
      go_upto_region 23 with (fail)
      apply wp_region_relyV [10, 11] [21] (NewV wf 10 11 21 P Kd) (RL [Is (.agg #[.int .i64 (P : Int), se]), Is (.int .i64 (k : Int)), Is (.agg (macA allM)), Is (.agg (macA c44)), OwnL wf.heap.size 14 (frB allM c44), FwV P Kd Ld 0, FwV P Kd Ld 0, BrV P Kd, IsV Ld, Is (.int .i64 0), Any, Any, IsV Ld, Is (.int .i64 0)]) [false, false, false, false, false, false, false, false, false, false, false, false, false, false, false, false, false, false, false, false, false, true, true, true, false, false, false, false, false, false, false, false, false, false, false, false, false, false, false, false, false, false, false, false, false, false, false, false, false, false, false, false, false, false, false, false, false, false, false, false, false, false, false, false, false, false, false, false, false, false, false, false, false, false, false, false, false, false, false, false, false, false, false, false, false, false, false, false, false, false, false, false, false, false, false, false, false, false, false, false, false, false, false, false, false, false, false, false, false, false, false, false, false, false, true, true, true, true, true, true, true, true, true, true, false, false, false, false, false, false, false, false, false, false, false, false, false, false, false, false, false, false, false, false, false, false, false, false, false, false, false, false, false, false, false, false, false, false, false, false, false, false]
      · kernel_rfl
      · kernel_rfl
      · kernel_rfl
      · refine ⟨?_, ?_, ?_, ?_, ?_, ?_, ?_, ?_, ?_, ?_, ?_, ?_, ?_, ?_, trivial⟩
        · intro L us ev w' hus hC hL hx hnd K hK
          have e7 : ev (.tmp 7) = _ := hx.base 7 (by kernel_rfl)
          have HK := Lib.hid hK
          have HC := Lib.hid hC
          have HL := Lib.hid hL
          have HX := Lib.hid hx
          have HUS := Lib.hid hus
          have HND := Lib.hid hnd
          have hc := hx.cst
          skip
          clear hx hK hC hL hus hnd
          have q1 : ev (.tmp 7) = .pointer (some ⟨N, 0, none⟩) := e7
          have hld := run_loadVar_row (P := Try.prog) w' N 27 27 #[.int .i64 (P : Int), se] (0, 0) _ ((HC.out.1.block N (row_lt HN.out)).trans HN.out) Try.underlying27 rfl (by kernel_rfl)
          unfold Run
          rw [rely_load 27 _ rfl q1 hld]
          exact HK.out _ _ (.inl ⟨Below.refl _ _, by decide⟩) rfl
        · intro L us ev w' hus hC hL hx hnd K hK
          have e17 : ev (.tmp 17) = _ := hx.base 17 (by kernel_rfl)
          have HK := Lib.hid hK
          have HC := Lib.hid hC
          have HL := Lib.hid hL
          have HX := Lib.hid hx
          have HUS := Lib.hid hus
          have HND := Lib.hid hnd
          have hc := hx.cst
          skip
          clear hx hK hC hL hus hnd
          unfold Run
          simp [execOp, Upon, go_sem, *]
          exact HK.out _ _ (.inl ⟨Below.refl _ _, by decide⟩) rfl
        · intro L us ev w' hus hC hL hx hnd K hK
          have HK := Lib.hid hK
          have HC := Lib.hid hC
          have HL := Lib.hid hL
          have HX := Lib.hid hx
          have HUS := Lib.hid hus
          have HND := Lib.hid hnd
          have hc := hx.cst
          have hf := hx.fn
          clear hx hK hC hL hus hnd
          unfold Run
          simp [execOp, Upon, go_sem, *]
          refine (all_any w').mono ?_
          rintro e w2 ⟨rfl, hb⟩
          exact ⟨_, rfl, HK.out _ _ (.inl ⟨hb, by decide⟩) rfl⟩
        · intro L us ev w' hus hC hL hx hnd K hK
          have e18 : ev (.tmp 18) = _ := hx.base 18 (by kernel_rfl)
          have HK := Lib.hid hK
          have HC := Lib.hid hC
          have HL := Lib.hid hL
          have HX := Lib.hid hx
          have HUS := Lib.hid hus
          have HND := Lib.hid hnd
          have hc := hx.cst
          skip
          clear hx hK hC hL hus hnd
          have q1 : ev (.tmp 18) = .pointer (some ⟨bc, 0, none⟩) := e18
          have hld := run_loadVar_row (P := Try.prog) w' bc 46 46 (macA c44) (0, 0) _ ((HC.out.1.block bc (row_lt HXC.out)).trans HXC.out) Try.underlying46 rfl (by kernel_rfl)
          unfold Run
          rw [rely_load 46 _ rfl q1 hld]
          exact HK.out _ _ (.inl ⟨Below.refl _ _, by decide⟩) rfl
        · intro L us ev w' hus hC hL hx hnd K hK
          have e117 := hx.held 2 _ rfl (by kernel_rfl)
          have e118 := hx.held 3 _ rfl (by kernel_rfl)
          change ev (.tmp 117) = _ at e117
          change ev (.tmp 118) = _ at e118
          have HK := Lib.hid hK
          have HC := Lib.hid hC
          have HL := Lib.hid hL
          have HX := Lib.hid hx
          have HUS := Lib.hid hus
          have HND := Lib.hid hnd
          have hc := hx.cst
          have hf := hx.fn
          clear hx hK hC hL hus hnd
          have qa : ev (.tmp 117) = .agg (macA allM) := e117
          have qb : ev (.tmp 118) = .agg (macA c44) := e118
          unfold Run
          simp [execOp, Upon, go_sem, *]
          refine (frame_any allM c44 w').mono ?_
          rintro e w2 ⟨A2, c2, rfl, ho, hb⟩
          exact ⟨_, rfl, HK.out _ _ (.inl ⟨hb, by decide⟩) (ownL_of (own_base ho HC.out.1.size) (by decide))⟩
        · intro L us ev w' hus hC hL hx hnd K hK
          have e115 := hx.held 0 _ rfl (by kernel_rfl)
          have e116 := hx.held 1 _ rfl (by kernel_rfl)
          have e119 := hx.held 4 _ rfl (by kernel_rfl)
          change ev (.tmp 115) = _ at e115
          change ev (.tmp 116) = _ at e116
          change (OwnL wf.heap.size 14 (frB allM c44) : Pred) (ev (.tmp 119)) w' at e119
          have HK := Lib.hid hK
          have HC := Lib.hid hC
          have HL := Lib.hid hL
          have HX := Lib.hid hx
          have HUS := Lib.hid hus
          have HND := Lib.hid hnd
          have hc := hx.cst
          have hf := hx.fn
          clear hx hK hC hL hus hnd
          have qa : ev (.tmp 115) = .agg #[.int .i64 (P : Int), se] := e115
          have hbr : BrT w' (.agg #[.int .i64 (P : Int), se]) P _ := ⟨_, rfl, HKS.out.below HC.out.1⟩
          have hf9 := byt_frame e119
          have HBR := Lib.hid hbr
          have HF9 := Lib.hid hf9
          clear hbr hf9 e119
          unfold Run
          simp [execOp, Upon, go_sem, *]
          refine (fw_of HBR.out HKLb.out HPP.out HF9.out HFD.out).mono ?_
          rintro e w2 ⟨v2, rfl, ho, hb⟩
          exact ⟨_, rfl, HK.out _ _ (.inl ⟨hb, by decide⟩) ho⟩
        · intro L us ev w' hus hC hL hx hnd K hK
          have e120 := hx.held 5 _ rfl (by kernel_rfl)
          change (FwV P Kd Ld 0 : Pred) (ev (.tmp 120)) w' at e120
          have HK := Lib.hid hK
          have HC := Lib.hid hC
          have HL := Lib.hid hL
          have HX := Lib.hid hx
          have HUS := Lib.hid hus
          have HND := Lib.hid hnd
          have hc := hx.cst
          skip
          clear hx hK hC hL hus hnd
          obtain ⟨x1, x2, qx, h1, h2⟩ := e120
          have H1 := Lib.hid h1
          have H2 := Lib.hid h2
          clear h1 h2
          unfold Run
          simp [execOp, Upon, go_sem, *]
          exact HK.out _ _ (.inl ⟨Below.refl _ _, by decide⟩) ⟨x1, x2, rfl, H1.out, H2.out⟩
        · intro L us ev w' hus hC hL hx hnd K hK
          have e114 := hx.held 6 _ rfl (by kernel_rfl)
          change (FwV P Kd Ld 0 : Pred) (ev (.tmp 114)) w' at e114
          have HK := Lib.hid hK
          have HC := Lib.hid hC
          have HL := Lib.hid hL
          have HX := Lib.hid hx
          have HUS := Lib.hid hus
          have HND := Lib.hid hnd
          have hc := hx.cst
          skip
          clear hx hK hC hL hus hnd
          obtain ⟨x1, x2, qx, h1, h2⟩ := e114
          have H1 := Lib.hid h1
          have H2 := Lib.hid h2
          clear h1 h2
          unfold Run
          simp [execOp, Upon, go_sem, *]
          exact HK.out _ _ (.inl ⟨Below.refl _ _, by decide⟩) H1.out
        · intro L us ev w' hus hC hL hx hnd K hK
          have e114 := hx.held 6 _ rfl (by kernel_rfl)
          change (FwV P Kd Ld 0 : Pred) (ev (.tmp 114)) w' at e114
          have HK := Lib.hid hK
          have HC := Lib.hid hC
          have HL := Lib.hid hL
          have HX := Lib.hid hx
          have HUS := Lib.hid hus
          have HND := Lib.hid hnd
          have hc := hx.cst
          skip
          clear hx hK hC hL hus hnd
          obtain ⟨x1, x2, qx, h1, h2⟩ := e114
          have H1 := Lib.hid h1
          have H2 := Lib.hid h2
          clear h1 h2
          unfold Run
          simp [execOp, Upon, go_sem, *]
          exact HK.out _ _ (.inl ⟨Below.refl _ _, by decide⟩) H2.out
        · intro L us ev w' hus hC hL hx hnd K hK
          have e114 := hx.held 6 _ rfl (by kernel_rfl)
          change (FwV P Kd Ld 0 : Pred) (ev (.tmp 114)) w' at e114
          have HK := Lib.hid hK
          have HC := Lib.hid hC
          have HL := Lib.hid hL
          have HX := Lib.hid hx
          have HUS := Lib.hid hus
          have HND := Lib.hid hnd
          have hc := hx.cst
          skip
          clear hx hK hC hL hus hnd
          obtain ⟨x1, x2, qx, h1, h2⟩ := e114
          have H1 := Lib.hid h1
          have H2 := Lib.hid h2
          clear h1 h2
          unfold Run
          simp [execOp, Upon, go_sem, *]
          exact HK.out _ _ (.inl ⟨Below.refl _ _, by decide⟩) rfl
        · intro L us ev w' hus hC hL hx hnd K hK
          have HK := Lib.hid hK
          have HC := Lib.hid hC
          have HL := Lib.hid hL
          have HX := Lib.hid hx
          have HUS := Lib.hid hus
          have HND := Lib.hid hnd
          have hc := hx.cst
          skip
          clear hx hK hC hL hus hnd
          have nst : L 11 = false := Bool.eq_false_iff.2 fun h => by have := HX.out.closed 11 _ 10 rfl h (by kernel_rfl); rw [HL.out] at this; cases this
          unfold Run
          simp [execOp, Upon, go_sem]
          exact HK.out _ _ (.inr ⟨HC.out.alloc nst (by decide), fun j hj hlj u hr => rl_mono (Rs := [Is (.agg #[.int .i64 (P : Int), se]), Is (.int .i64 (k : Int)), Is (.agg (macA allM)), Is (.agg (macA c44)), OwnL wf.heap.size 14 (frB allM c44), FwV P Kd Ld 0, FwV P Kd Ld 0, BrV P Kd, IsV Ld, Is (.int .i64 0), Any, Any, IsV Ld, Is (.int .i64 0)]) ⟨is_mono _, is_mono _, is_mono _, is_mono _, ownL_mono _ _ _, fwV_mono _ _ _ _, fwV_mono _ _ _ _, brV_mono _ _, isV_mono _, is_mono _, any_mono, any_mono, isV_mono _, is_mono _, trivial⟩ j u _ _ ((Below.refl _ _).alloc (Nat.le_refl _) _) hr⟩) trivial
        · intro L us ev w' hus hC hL hx hnd K hK
          have e21 := hx.held 10 _ rfl (by kernel_rfl)
          have e121 := hx.held 7 _ rfl (by kernel_rfl)
          change (Any : Pred) (ev (.tmp 21)) w' at e21
          change (BrV P Kd : Pred) (ev (.tmp 121)) w' at e121
          have HK := Lib.hid hK
          have HC := Lib.hid hC
          have HL := Lib.hid hL
          have HX := Lib.hid hx
          have HUS := Lib.hid hus
          have HND := Lib.hid hnd
          have hc := hx.cst
          skip
          clear hx hK hC hL hus hnd
          have hbr : BrT w' (ev (.tmp 121)) P Kd := e121
          obtain ⟨Ax, nx, cx, qv⟩ := hbr.form
          rw [qv] at hbr
          have nst : L 11 = false := HL.out
          have lal : L 10 = true := HND.out 10 (by kernel_rfl)
          obtain ⟨g, hg, -⟩ := HC.out.2 lal
          have qp : ev (.tmp 21) = .pointer (some ⟨g, 0, none⟩) := (HUS.out 21).trans hg
          obtain ⟨hgh, hnv⟩ := HC.out.store (v := undef) lal nst hg hbr (by decide)
          have hst := run_storeVar_row (P := Try.prog) w' g 27 27 B2 #[.int .i64 (P : Int), .slice Ax nx cx] hgh (by kernel_rfl) rfl (B2_ones _ _ _ _)
          unfold Run
          rw [rely_store 27 _ _ rfl qp qv hst]
          refine HK.out _ _ (.inr ⟨hnv.agree rfl rfl rfl, fun j hj hlj u hr => ?_⟩) trivial
          rcases j with _ | _ | _ | _ | _ | _ | _ | _ | _ | _ | _ | _ | _ | _ | j
          · exact hr
          · exact hr
          · exact hr
          · exact hr
          · exact ow_set hr hgh _
          · exact fw_set hr hgh _
          · exact fw_set hr hgh _
          · exact br_set hr hgh _
          · exact is_set hr hgh _
          · exact hr
          · exact trivial
          · exact absurd rfl hj
          · exact is_set hr hgh _
          · exact hr
          · exact trivial
        · intro L us ev w' hus hC hL hx hnd K hK
          have e122 := hx.held 8 _ rfl (by kernel_rfl)
          change (IsV Ld : Pred) (ev (.tmp 122)) w' at e122
          have HK := Lib.hid hK
          have HC := Lib.hid hC
          have HL := Lib.hid hL
          have HX := Lib.hid hx
          have HUS := Lib.hid hus
          have HND := Lib.hid hnd
          have hc := hx.cst
          skip
          clear hx hK hC hL hus hnd
          have h1 : IsT w' (ev (.tmp 122)) Ld := e122
          obtain ⟨Ax, cx, qx⟩ := h1.form
          rw [qx] at h1
          have H1 := Lib.hid h1
          clear h1 e122
          unfold Run
          simp [execOp, Upon, go_sem, *]
          exact HK.out _ _ (.inl ⟨Below.refl _ _, by decide⟩) H1.out
        · intro L us ev w' hus hC hL hx hnd K hK
          have e123 := hx.held 9 _ rfl (by kernel_rfl)
          change ev (.tmp 123) = _ at e123
          have HK := Lib.hid hK
          have HC := Lib.hid hC
          have HL := Lib.hid hL
          have HX := Lib.hid hx
          have HUS := Lib.hid hus
          have HND := Lib.hid hnd
          have hc := hx.cst
          skip
          clear hx hK hC hL hus hnd
          unfold Run
          simp [execOp, Upon, go_sem, *]
          exact HK.out _ _ (.inl ⟨Below.refl _ _, by decide⟩) rfl
      · exact rl_mono ⟨is_mono _, is_mono _, is_mono _, is_mono _, ownL_mono _ _ _, fwV_mono _ _ _ _, fwV_mono _ _ _ _, brV_mono _ _, isV_mono _, is_mono _, any_mono, any_mono, isV_mono _, is_mono _, trivial⟩
      · exact fun L L' us us' w' h1 h2 hg => hg.agree (h1 10 (by simp)) (h1 11 (by simp)) (h2 21 (by simp))
      · exact fun L us w' w'' hb hg => hg.below hb
      · kernel_rfl
      · exact ⟨Below.refl _ _, fun h => (by cases h)⟩
      · simp
      intro us wr hG hH
      obtain ⟨-, -, -, -, -, -, -, -, -, -, -, -, h12, h13, -⟩ := hH
      simp only [fillM]
      obtain ⟨hB9, hN9⟩ := hG
      obtain ⟨gn, hgn, hgb, -, hvn⟩ := hN9 rfl
      rw [hgn]
      have HVN := Lib.hid (hvn rfl)
      have HGB := Lib.hid hgb
      have HB9 := Lib.hid hB9
      clear hB9 hN9 hgb hvn
      change (IsV Ld : Pred) (us 22) wr at h12
      change us 23 = _ at h13
      rw [h13]
      clear h13
      generalize us 115 = v115
      generalize us 116 = v116
      generalize us 117 = v117
      generalize us 118 = v118
      generalize us 119 = v119
      generalize us 120 = v120
      generalize us 114 = v114
      generalize us 121 = v121
      generalize us 122 = v122
      generalize us 123 = v123
      generalize us 22 = v22 at h12 ⊢
      clear hgn
      have HI9 := Lib.hid h12
      clear h12
      have HBX := Lib.hid (HBX.out.trans (HB9.out.mono HBX.out.size))
      have hi5 := HI5.out.below HB9.out
      obtain ⟨A7, c7, q7⟩ := HI9.out.form
      rw [q7, HLD.out]
      clear HI9 HI5 HVN HGB HB9 q7 HN HKS HXC
      by_cases hik : i = k
      · subst hik
        obtain ⟨A5, c5, q5⟩ := hi5.form
        rw [q5, show (keepP [i] i).length = 0 from by simp [keepP, isP]]
        clear hi5 q5
        go_wp2
        go_ret
        exact ⟨rfl, HBX.out⟩
      · have hkp : keepP [i] k = [i] := by simp [keepP, isP, hik]
        rw [hkp] at hi5
        obtain ⟨a5, c5, q5, z5⟩ := is_at hi5 (k := 0) rfl
        rw [q5]
        have y5 : wr.cell? a5 = some (.int .i64 (i : Int)) := z5
        have hne : ((i : Int) == (k : Int)) = false := by rw [beq_eq_false_iff_ne]; omega
        have hne2 : ((i : Int) != (k : Int)) = true := by rw [bne_iff_ne]; omega
        clear hi5 q5 z5 hkp
        go_wp2
        go_ret
        exact ⟨rfl, HBX.out⟩
end Go.Proofs.Ytecbelnmdimnkaa
