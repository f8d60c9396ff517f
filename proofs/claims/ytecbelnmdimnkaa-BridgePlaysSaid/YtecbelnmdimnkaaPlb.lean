/-
  The law BridgePlays: every int and every slice of frames. No condition.
-/
import Derived.Test.YtecbelnmdimnkaaSrB
namespace Go.Proofs.Ytecbelnmdimnkaa
open Go.RowKit

def Z4p : Array Value := #[.int .i64 0, .int .u8 0, .int .u8 0, .slice none 0 0]
theorem fmP_one (f : Fm) (A : Option Addr) (n c : Nat) : (fmA f (.slice A n c)).all (·.oneCell') = true := by simp [fmA, Value.oneCell']
theorem fm_len {f : Fm} (h : f.raw.length ≤ 300) : f.bytes.length ≤ 100000 := by
  unfold Fm.bytes
  split
  · rw [frB_len]; decide
  · omega
theorem gro_set2 {D : Nat → Prop} {a b : World} {g : Nat} (h : Gro D a b) (hg : D g) {old cs : Array Value} {t : TypeId} {fr : Nat × Nat} (hb : b.heap[g]? = some (.cells old t fr)) (hs : old.size = cs.size) : Gro D a (b.setRow g cs) := by
  refine ⟨h.os, h.tape, h.output, by simp [World.setRow]; exact h.size, fun k hk hx => (setRow_other b g k cs (fun e => hx (by rw [e]; exact hg))).trans (h.block k hk hx), fun k c0 t0 f0 hk => ?_⟩
  obtain ⟨c1, e1, e2⟩ := h.shape k c0 t0 f0 hk
  by_cases hkg : k = g
  · subst hkg
    rw [hb] at e1
    injection e1 with e1
    injection e1 with a1 a2 a3
    subst a1 a2 a3
    exact ⟨cs, setRow_heap _ _ _ _ _ _ hb, hs.symm.trans e2⟩
  · exact ⟨c1, (setRow_other b g k cs hkg).trans e1, e2⟩
theorem not_ln {w : World} {g N : Nat} {C D : Array Value} {t : TypeId} {fr fr2 : Nat × Nat} (hg : w.heap[g]? = some (.cells C 58 fr)) (hN : w.heap[N]? = some (.cells D t fr2)) (ht : t ≠ 58) : ¬ g = N := fun e => by
  subst e
  rw [hg] at hN
  injection hN with hN
  injection hN with _ hN
  exact ht hN.symm
set_option maxRecDepth 100000 in
set_option maxHeartbeats 16000000 in
theorem plays_any (a0 : Int) (A : Option Addr) (n c : Nat) (l : List Fm) (w : World) (hI : I64 a0) (h : FmsT w w.heap.size A l) (hl : l.length = n) (hn : n ≤ 140737488351232) :
    Calls Try.prog 3 #[.int .i64 a0, .slice A n c] w fun e w' => e = .returned (.bool true) ∧ Below w.heap.size w w' := by
  have HFMS := Lib.hid h
  have HLN := Lib.hid hl
  have HFT := Lib.hid (fun w' (hb : Below w.heap.size w w') => fits_any A n c w.heap.size l w' (h.below hb (Nat.le_refl _)) hb.size hl hn)
  clear h hl hI
  go_enter Try.func3, Try.ntmps3
  go_wp2_with fail
  refine (lives_any _).mono ?_
  rintro e w1 ⟨rfl, hb1⟩
  have HB0 := Lib.hid hb1
  clear hb1
  go_wp2_with fail
  refine (HFT.out _ HB0.out).mono ?_
  rintro e w2 ⟨rfl, hb2⟩
  have HB1 := Lib.hid (HB0.out.trans (hb2.mono HB0.out.size))
  clear hb2 HB0 HFT
  cases hft : fitsB l
  · clear hft
    go_wp2_with fail
    refine (lives_any _).mono ?_
    rintro e w3 ⟨rfl, hb3⟩
    have HB3 := Lib.hid (HB1.out.trans (hb3.mono HB1.out.size))
    clear hb3
    go_wp2
    go_ret
    exact ⟨rfl, HB3.out⟩
  have hn100 : n ≤ 100 := by rw [← HLN.out]; exact (fits_of hft).1
  have HRAW := Lib.hid (fits_of hft).2
  clear hft hn
  rcases (show (a0 < 1 ∨ 8 < a0) ∨ (1 ≤ a0 ∧ a0 ≤ 8) by omega) with ha | ⟨ha1, ha8⟩
  · have HNEW := Lib.hid (new_bad a0 w2 ha)
    go_wp2_with fail
    refine HNEW.out.mono ?_
    rintro e w3 ⟨rfl, hb3⟩
    have HBA : Hid (Below w.heap.size w (w3.alloc (.cells #[.int .i64 0, .slice none 0 0] 27))) := (HB1.out.trans (hb3.mono HB1.out.size)).alloc (Nat.le_trans HB1.out.size hb3.size) _
    have HVA : Hid ((w3.alloc (.cells #[.int .i64 0, .slice none 0 0] 27)).heap[w3.heap.size]? = some (.cells #[.int .i64 0, .slice none 0 0] 27 (0, 0))) := heap_alloc_new w3 _
    clear hb3 HB1 HNEW
    go_upto_region 4 with (refine wpList_store_new rfl 27 _ _ rfl w3 B2 #[.int .i64 0, .slice none 0 0] rfl rfl (by kernel_rfl) rfl rfl ?_)
    generalize w3.alloc (.cells #[.int .i64 0, .slice none 0 0] 27) = wa at HBA HVA ⊢
    generalize w3.heap.size = N at HVA ⊢
    obtain ⟨x0, x1⟩ := two_cells HVA.out
    rcases Int.lt_or_le a0 1 with h1 | h1
    · go_wp2
      go_ret
      exact ⟨rfl, HBA.out⟩
    · have h8 : 8 < a0 := by omega
      have h1' : ¬ a0 < 1 := by omega
      clear ha
      go_wp2
      go_ret
      exact ⟨rfl, HBA.out⟩
  obtain ⟨P, rfl⟩ := Int.eq_ofNat_of_zero_le (show 0 ≤ a0 by omega)
  change 1 ≤ (P : Int) at ha1
  have HPP : Hid (P ≤ 8) := by show P ≤ 8; omega
  have HNEW := Lib.hid (new_ok P w2 (by omega) (by omega))
  have hp1 : ¬ (P : Int) < 1 := by omega
  have hp8 : ¬ (8 : Int) < (P : Int) := by omega
  clear ha1 ha8
  go_wp2_with fail
  refine HNEW.out.mono ?_
  rintro e w3 ⟨rfl, hb3⟩
  have HBA : Hid (Below w.heap.size w (w3.alloc (.cells #[.int .i64 (P : Int), .slice none 0 0] 27))) := (HB1.out.trans (hb3.mono HB1.out.size)).alloc (Nat.le_trans HB1.out.size hb3.size) _
  have HVA : Hid (VarB w3.heap.size P (KF []) (w3.alloc (.cells #[.int .i64 (P : Int), .slice none 0 0] 27))) := ⟨_, heap_alloc_new w3 _, KsT.nil⟩
  have HNW : Hid (w.heap.size ≤ w3.heap.size) := Nat.le_trans HB1.out.size hb3.size
  clear hb3 HB1 HNEW
  go_upto_region 4 with (refine wpList_store_new rfl 27 _ _ rfl w3 B2 #[.int .i64 (P : Int), .slice none 0 0] rfl rfl (by kernel_rfl) rfl (B2_ones _ _ _ _) ?_)
  have HNV : Hid (w3.heap.size < (w3.alloc (.cells #[.int .i64 (P : Int), .slice none 0 0] 27)).heap.size) := by show _ < _; simp
  generalize w3.alloc (.cells #[.int .i64 (P : Int), .slice none 0 0] 27) = wa at HBA HVA HNV ⊢
  generalize w3.heap.size = N at HVA HNW HNV ⊢
  have HBB : Hid (Below w.heap.size w (wa.alloc (.cells #[.int .i64 (P : Int), .slice none 0 0] 32))) := HBA.out.alloc HBA.out.size _
  have HVB : Hid (VarB N P (KF []) (wa.alloc (.cells #[.int .i64 (P : Int), .slice none 0 0] 32))) := HVA.out.below ((Below.refl wa.heap.size wa).alloc (Nat.le_refl _) _)
  have HVX : Hid (VarR wa.heap.size P [] (wa.alloc (.cells #[.int .i64 (P : Int), .slice none 0 0] 32))) := ⟨_, heap_alloc_new wa _, KsT.nil⟩
  have HXW : Hid (w.heap.size ≤ wa.heap.size) := HBA.out.size
  go_upto_region 7 with (first | refine wpList_buildA rfl 32 _ rfl #[.int .i64 (P : Int), .slice none 0 0] (by kernel_rfl) ?_ | refine wpList_store_new rfl 32 _ _ rfl wa B2 #[.int .i64 (P : Int), .slice none 0 0] rfl rfl (by kernel_rfl) rfl (B2_ones _ _ _ _) ?_)
  clear hp1 hp8 HVA HBA
  have HXNE : Hid (¬ wa.heap.size = N) := fun e => by have := HNV.out; omega
  generalize wa.alloc (.cells #[.int .i64 (P : Int), .slice none 0 0] 32) = wb at HBB HVB HVX ⊢
  generalize wa.heap.size = X at HVX HXW HNV HXNE ⊢
  go_wp2
  go_loopw [51] (fun t51 wr => ∃ (j : Nat) (S : List Ln), j ≤ n ∧ t51 = .int .i64 (j : Int) ∧ S.length ≤ j ∧ Hid (VarB N P (KF S) wr) ∧ Hid (VarR X P S wr) ∧ Hid (Even S) ∧ Hid (Ports P S) ∧ Hid (Below w.heap.size w wr)) (fun t51 _ => n - (intOf t51).toNat)
  case atStart => exact ⟨0, [], Nat.zero_le _, rfl, Nat.le_refl _, HVB, HVX, (show Even [] from fun _ hl => (by cases hl)), (show Ports P [] from fun _ hl => (by cases hl)), HBB⟩
  case round =>
    obtain ⟨j, S, hj, rfl, hsj, HV, HR, HEV, HPO, HBE⟩ := hrel
    clear HVB HVX HBB
    by_cases hlt : j < n
    · obtain ⟨f, hf⟩ : ∃ f, l[j]? = some f := ⟨_, List.getElem?_eq_getElem (by rw [HLN.out]; exact hlt)⟩
      obtain ⟨ad, A', cc, rfl, -, hcs, hrd, hA, hlc, hcc, -⟩ := (HFMS.out j f hf).below HBE.out (Nat.le_refl _)
      have HFLEN := Lib.hid (fm_len (HRAW.out f (List.mem_of_getElem? hf)))
      have HEL := Lib.hid hcs
      obtain ⟨wq, hwq⟩ : ∃ wq, wr.alloc (.cells (fmA f (.slice A' f.raw.length cc)) 35) = wq := ⟨_, rfl⟩
      have hbq : Below wr.heap.size wr wq := by rw [← hwq]; exact (Below.refl _ _).alloc (Nat.le_refl _) _
      have HQ0 : Hid (wq.heap[wr.heap.size]? = some (.cells (fmA f (.slice A' f.raw.length cc)) 35 (0, 0))) := by rw [← hwq]; exact heap_alloc_new wr _
      have HV0 : Hid (ByT wq (.slice A' f.raw.length cc) f.raw) := ⟨A', cc, rfl, (hrd.below hbq HBE.out.size).wide (Nat.zero_le _) (Nat.le_trans HBE.out.size hbq.size), hA, hlc, by unfold maxLen; omega⟩
      have HVQ := Lib.hid (HV.out.below hbq)
      have HRQ := Lib.hid (HR.out.below hbq)
      have HBQ := Lib.hid (HBE.out.trans (hbq.mono HBE.out.size))
      have HQW : Hid (w.heap.size ≤ wr.heap.size) := HBE.out.size
      have HWQ : Hid (_ = wq) := hwq
      clear hf hcs hrd hA hlc hcc hbq hwq HV HR HBE
      go_upto_region 10 with (first | refine wpList_load_atA rfl 35 _ rfl (ad.add (j * 4)) rfl (fmA f (.slice A' f.raw.length cc)) _ HEL.out Try.underlying35 rfl (by kernel_rfl) ?_ | refine wpList_store_new rfl 35 _ _ rfl wr Z4p (fmA f (.slice A' f.raw.length cc)) rfl rfl (by kernel_rfl) rfl (fmP_one f _ _ _) ?_)
      rw [HWQ.out]
      clear HWQ HEL
      generalize wr.heap.size = Q at HQ0 HQW ⊢
      have HQ := HQ0
      clear HQ0
      obtain ⟨sb, hnx, hks⟩ := HVQ.out
      have HNX := Lib.hid hnx
      have HKS := Lib.hid hks
      clear hnx hks
      obtain ⟨hr1, hev1, hpo1, hlen1⟩ := ref_fw HEV.out HPO.out f.port f.bytes
      obtain ⟨r, hr⟩ : ∃ r, refX P S f.port f.bytes = r := ⟨_, rfl⟩
      rw [hr] at hr1 hev1 hpo1 hlen1
      obtain ⟨S1, L1, er⟩ := r
      obtain ⟨K1, hk1⟩ : ∃ K1, KF S1 = K1 := ⟨_, rfl⟩
      have HFX : Hid (fwX P (KF S) f.port f.bytes = (K1, L1, er)) := by rw [← hk1]; exact hr1
      have HRX : Hid (refX P S f.port f.bytes = (S1, L1, er)) := hr
      have HEV1 : Hid (Even S1) := hev1
      have HPO1 : Hid (Ports P S1) := hpo1
      have HS1 : Hid (S1.length ≤ j + 1) := Nat.le_trans hlen1 (by show S.length + 1 ≤ j + 1; omega)
      have HK1 : Hid (KF S1 = K1) := hk1
      have hml := fwX_out P (KF S) f.port f.bytes
      rw [HFX.out] at hml
      have HML : Hid (L1.length ≤ 9) := Nat.le_trans hml (by have := HPP.out; omega)
      have HKL : Hid ((KF S).length ≤ 16) := kf_le S
      have HSL : Hid (S.length ≤ 900) := by show _ ≤ _; omega
      clear hr hr1 hev1 hpo1 hlen1 hk1 hml
      apply wp_region_relyV [10, 11] [10] (NewV wq 10 11 10 P K1) (RL [Is (.agg #[.int .i64 (P : Int), sb]), Is (.pointer (some ⟨Q, 0, none⟩)), Is (.int .i64 f.port), Is (.agg (fmA f (.slice A' f.raw.length cc))), ByP wq.heap.size (.slice A' f.raw.length cc) f, FwV P K1 L1 er, FwV P K1 L1 er, BrV P K1, IsV L1, Is (.int .i64 er), Any, Any, IsV L1, Is (.int .i64 er)]) [false, false, false, false, false, false, false, false, false, false, true, true, true, false, false, false, false, false, false, false, false, false, false, false, false, false, false, false, false, false, false, false, false, false, false, false, false, false, false, false, false, false, false, false, false, false, false, false, false, false, false, false, false, false, false, true, true, true, true, true, true, true, true, true, true, false, false, false, false, false, false, false, false, false, false, false, false, false, false, false, false, false, false, false, false, false, false, false, false, false, false, false, false, false, false, false, false, false, false, false, false, false, false, false, false, false, false, false, false, false, false, false, false, false, false, false, false, false, false, false, false, false, false, false, false, false, false, false, false, false, false, false, false, false, false, false, false, false, false, false, false, false, false, false, false, false, false, false, false, false, false, false, false]
      · kernel_rfl
      · kernel_rfl
      · kernel_rfl
      · refine ⟨?_, ?_, ?_, ?_, ?_, ?_, ?_, ?_, ?_, ?_, ?_, ?_, ?_, ?_, trivial⟩
        · intro L us ev w' hus hC hL hx hnd K hK
          have e5 : ev (.tmp 5) = _ := hx.base 5 (by kernel_rfl)
          have HK := Lib.hid hK
          have HC := Lib.hid hC
          have HL := Lib.hid hL
          have HX := Lib.hid hx
          have HUS := Lib.hid hus
          have HND := Lib.hid hnd
          have hc := hx.cst
          skip
          clear hx hK hC hL hus hnd
          have q1 : ev (.tmp 5) = .pointer (some ⟨N, 0, none⟩) := e5
          have hld := run_loadVar_row (P := Try.prog) w' N 27 27 #[.int .i64 (P : Int), sb] (0, 0) _ ((HC.out.1.block N (row_lt HNX.out)).trans HNX.out) Try.underlying27 rfl (by kernel_rfl)
          unfold Run
          rw [rely_load 27 _ rfl q1 hld]
          exact HK.out _ _ (.inl ⟨Below.refl _ _, by decide⟩) rfl
        · intro L us ev w' hus hC hL hx hnd K hK
          have e9 : ev (.tmp 9) = _ := hx.base 9 (by kernel_rfl)
          have HK := Lib.hid hK
          have HC := Lib.hid hC
          have HL := Lib.hid hL
          have HX := Lib.hid hx
          have HUS := Lib.hid hus
          have HND := Lib.hid hnd
          have hc := hx.cst
          skip
          clear hx hK hC hL hus hnd
          unfold Run
          simp [execOp, Upon, go_sem, *]
          exact HK.out _ _ (.inl ⟨Below.refl _ _, by decide⟩) rfl
        · intro L us ev w' hus hC hL hx hnd K hK
          have e57 := hx.held 1 _ rfl (by kernel_rfl)
          change ev (.tmp 57) = _ at e57
          have HK := Lib.hid hK
          have HC := Lib.hid hC
          have HL := Lib.hid hL
          have HX := Lib.hid hx
          have HUS := Lib.hid hus
          have HND := Lib.hid hnd
          have hc := hx.cst
          skip
          clear hx hK hC hL hus hnd
          obtain ⟨c0, c1, c2, c3⟩ := four_cells ((HC.out.1.block Q (row_lt HQ.out)).trans HQ.out)
          unfold Run
          simp [execOp, Upon, go_sem, *]
          exact HK.out _ _ (.inl ⟨Below.refl _ _, by decide⟩) rfl
        · intro L us ev w' hus hC hL hx hnd K hK
          have e9 : ev (.tmp 9) = _ := hx.base 9 (by kernel_rfl)
          have HK := Lib.hid hK
          have HC := Lib.hid hC
          have HL := Lib.hid hL
          have HX := Lib.hid hx
          have HUS := Lib.hid hus
          have HND := Lib.hid hnd
          have hc := hx.cst
          skip
          clear hx hK hC hL hus hnd
          have q1 : ev (.tmp 9) = .pointer (some ⟨Q, 0, none⟩) := e9
          have hld := run_loadVar_row (P := Try.prog) w' Q 35 35 (fmA f (.slice A' f.raw.length cc)) (0, 0) _ ((HC.out.1.block Q (row_lt HQ.out)).trans HQ.out) Try.underlying35 rfl (by kernel_rfl)
          unfold Run
          rw [rely_load 35 _ rfl q1 hld]
          exact HK.out _ _ (.inl ⟨Below.refl _ _, by decide⟩) rfl
        · intro L us ev w' hus hC hL hx hnd K hK
          have e59 := hx.held 3 _ rfl (by kernel_rfl)
          change ev (.tmp 59) = _ at e59
          have HK := Lib.hid hK
          have HC := Lib.hid hC
          have HL := Lib.hid hL
          have HX := Lib.hid hx
          have HUS := Lib.hid hus
          have HND := Lib.hid hnd
          have hc := hx.cst
          have hf := hx.fn
          clear hx hK hC hL hus hnd
          have qa : ev (.tmp 59) = .agg (fmA f (.slice A' f.raw.length cc)) := e59
          unfold Run
          simp [execOp, Upon, go_sem, *]
          refine (bytes_any f (.slice A' f.raw.length cc) w' (HV0.out.below HC.out.1)).mono ?_
          rintro e w2 ⟨v2, rfl, ho, hb⟩
          refine ⟨_, rfl, HK.out _ _ (.inl ⟨hb, by decide⟩) ?_⟩
          rcases ho with ⟨h1, h2⟩ | ho
          · exact .inl ⟨h1, ownk_base h2 HC.out.1.size⟩
          · exact .inr ho
        · intro L us ev w' hus hC hL hx hnd K hK
          have e56 := hx.held 0 _ rfl (by kernel_rfl)
          have e58 := hx.held 2 _ rfl (by kernel_rfl)
          have e60 := hx.held 4 _ rfl (by kernel_rfl)
          change ev (.tmp 56) = _ at e56
          change ev (.tmp 58) = _ at e58
          change (ByP wq.heap.size (.slice A' f.raw.length cc) f : Pred) (ev (.tmp 60)) w' at e60
          have HK := Lib.hid hK
          have HC := Lib.hid hC
          have HL := Lib.hid hL
          have HX := Lib.hid hx
          have HUS := Lib.hid hus
          have HND := Lib.hid hnd
          have hc := hx.cst
          have hf := hx.fn
          clear hx hK hC hL hus hnd
          have qa : ev (.tmp 56) = .agg #[.int .i64 (P : Int), sb] := e56
          have hbr : BrT w' (.agg #[.int .i64 (P : Int), sb]) P _ := ⟨_, rfl, HKS.out.below HC.out.1⟩
          have hf9 := ByT.ofP e60 (HV0.out.below HC.out.1)
          have HBR := Lib.hid hbr
          have HF9 := Lib.hid hf9
          clear hbr hf9 e60
          unfold Run
          simp [execOp, Upon, go_sem, *]
          refine (fw_of HBR.out HKL.out HPP.out HF9.out HFX.out).mono ?_
          rintro e w2 ⟨v2, rfl, ho, hb⟩
          exact ⟨_, rfl, HK.out _ _ (.inl ⟨hb, by decide⟩) ho⟩
        · intro L us ev w' hus hC hL hx hnd K hK
          have e61 := hx.held 5 _ rfl (by kernel_rfl)
          change (FwV P K1 L1 er : Pred) (ev (.tmp 61)) w' at e61
          have HK := Lib.hid hK
          have HC := Lib.hid hC
          have HL := Lib.hid hL
          have HX := Lib.hid hx
          have HUS := Lib.hid hus
          have HND := Lib.hid hnd
          have hc := hx.cst
          skip
          clear hx hK hC hL hus hnd
          obtain ⟨x1, x2, qx, h1, h2⟩ := e61
          have H1 := Lib.hid h1
          have H2 := Lib.hid h2
          clear h1 h2
          unfold Run
          simp [execOp, Upon, go_sem, *]
          exact HK.out _ _ (.inl ⟨Below.refl _ _, by decide⟩) ⟨x1, x2, rfl, H1.out, H2.out⟩
        · intro L us ev w' hus hC hL hx hnd K hK
          have e55 := hx.held 6 _ rfl (by kernel_rfl)
          change (FwV P K1 L1 er : Pred) (ev (.tmp 55)) w' at e55
          have HK := Lib.hid hK
          have HC := Lib.hid hC
          have HL := Lib.hid hL
          have HX := Lib.hid hx
          have HUS := Lib.hid hus
          have HND := Lib.hid hnd
          have hc := hx.cst
          skip
          clear hx hK hC hL hus hnd
          obtain ⟨x1, x2, qx, h1, h2⟩ := e55
          have H1 := Lib.hid h1
          have H2 := Lib.hid h2
          clear h1 h2
          unfold Run
          simp [execOp, Upon, go_sem, *]
          exact HK.out _ _ (.inl ⟨Below.refl _ _, by decide⟩) H1.out
        · intro L us ev w' hus hC hL hx hnd K hK
          have e55 := hx.held 6 _ rfl (by kernel_rfl)
          change (FwV P K1 L1 er : Pred) (ev (.tmp 55)) w' at e55
          have HK := Lib.hid hK
          have HC := Lib.hid hC
          have HL := Lib.hid hL
          have HX := Lib.hid hx
          have HUS := Lib.hid hus
          have HND := Lib.hid hnd
          have hc := hx.cst
          skip
          clear hx hK hC hL hus hnd
          obtain ⟨x1, x2, qx, h1, h2⟩ := e55
          have H1 := Lib.hid h1
          have H2 := Lib.hid h2
          clear h1 h2
          unfold Run
          simp [execOp, Upon, go_sem, *]
          exact HK.out _ _ (.inl ⟨Below.refl _ _, by decide⟩) H2.out
        · intro L us ev w' hus hC hL hx hnd K hK
          have e55 := hx.held 6 _ rfl (by kernel_rfl)
          change (FwV P K1 L1 er : Pred) (ev (.tmp 55)) w' at e55
          have HK := Lib.hid hK
          have HC := Lib.hid hC
          have HL := Lib.hid hL
          have HX := Lib.hid hx
          have HUS := Lib.hid hus
          have HND := Lib.hid hnd
          have hc := hx.cst
          skip
          clear hx hK hC hL hus hnd
          obtain ⟨x1, x2, qx, h1, h2⟩ := e55
          have H1 := Lib.hid h1
          have H2 := Lib.hid h2
          clear h1 h2
          unfold Run
          simp [execOp, Upon, go_sem, *]
          exact HK.out _ _ (.inl ⟨Below.refl _ _, by decide⟩) rfl
        · intro L us ev w' hus hC hL hx hnd K hK
          have HK := Lib.hid hK
          have HC := Lib.hid hC
          have HL := Lib.hid hL
          have HX := Lib.hid hx
          have HUS := Lib.hid hus
          have HND := Lib.hid hnd
          have hc := hx.cst
          skip
          clear hx hK hC hL hus hnd
          have nst : L 11 = false := Bool.eq_false_iff.2 fun h => by have := HX.out.closed 11 _ 10 rfl h (by kernel_rfl); rw [HL.out] at this; cases this
          unfold Run
          simp [execOp, Upon, go_sem]
          exact HK.out _ _ (.inr ⟨HC.out.alloc nst (by decide), fun j hj hlj u hr => rl_mono (Rs := [Is (.agg #[.int .i64 (P : Int), sb]), Is (.pointer (some ⟨Q, 0, none⟩)), Is (.int .i64 f.port), Is (.agg (fmA f (.slice A' f.raw.length cc))), ByP wq.heap.size (.slice A' f.raw.length cc) f, FwV P K1 L1 er, FwV P K1 L1 er, BrV P K1, IsV L1, Is (.int .i64 er), Any, Any, IsV L1, Is (.int .i64 er)]) ⟨is_mono _, is_mono _, is_mono _, is_mono _, byP_mono _ _ _, fwV_mono _ _ _ _, fwV_mono _ _ _ _, brV_mono _ _, isV_mono _, is_mono _, any_mono, any_mono, isV_mono _, is_mono _, trivial⟩ j u _ _ ((Below.refl _ _).alloc (Nat.le_refl _) _) hr⟩) trivial
        · intro L us ev w' hus hC hL hx hnd K hK
          have e10 := hx.held 10 _ rfl (by kernel_rfl)
          have e62 := hx.held 7 _ rfl (by kernel_rfl)
          change (Any : Pred) (ev (.tmp 10)) w' at e10
          change (BrV P K1 : Pred) (ev (.tmp 62)) w' at e62
          have HK := Lib.hid hK
          have HC := Lib.hid hC
          have HL := Lib.hid hL
          have HX := Lib.hid hx
          have HUS := Lib.hid hus
          have HND := Lib.hid hnd
          have hc := hx.cst
          skip
          clear hx hK hC hL hus hnd
          have hbr : BrT w' (ev (.tmp 62)) P K1 := e62
          obtain ⟨Ax, nx, cx, qv⟩ := hbr.form
          rw [qv] at hbr
          have nst : L 11 = false := HL.out
          have lal : L 10 = true := HND.out 10 (by kernel_rfl)
          obtain ⟨g, hg, -⟩ := HC.out.2 lal
          have qp : ev (.tmp 10) = .pointer (some ⟨g, 0, none⟩) := (HUS.out 10).trans hg
          obtain ⟨hgh, hnv⟩ := HC.out.store (v := undef) lal nst hg hbr (by decide)
          have hst := run_storeVar_row (P := Try.prog) w' g 27 27 B2 #[.int .i64 (P : Int), .slice Ax nx cx] hgh (by kernel_rfl) rfl (B2_ones _ _ _ _)
          unfold Run
          rw [rely_store 27 _ _ rfl qp qv hst]
          refine HK.out _ _ (.inr ⟨hnv.agree rfl rfl rfl, fun j hj hlj u hr => ?_⟩) trivial
          rcases j with _ | _ | _ | _ | _ | _ | _ | _ | _ | _ | _ | _ | _ | _ | j
          · exact hr
          · exact hr
          · exact hr
          · exact hr
          · exact by_set hr hgh _
          · exact fw_set hr hgh _
          · exact fw_set hr hgh _
          · exact br_set hr hgh _
          · exact is_set hr hgh _
          · exact hr
          · exact trivial
          · exact absurd rfl hj
          · exact is_set hr hgh _
          · exact hr
          · exact trivial
        · intro L us ev w' hus hC hL hx hnd K hK
          have e63 := hx.held 8 _ rfl (by kernel_rfl)
          change (IsV L1 : Pred) (ev (.tmp 63)) w' at e63
          have HK := Lib.hid hK
          have HC := Lib.hid hC
          have HL := Lib.hid hL
          have HX := Lib.hid hx
          have HUS := Lib.hid hus
          have HND := Lib.hid hnd
          have hc := hx.cst
          skip
          clear hx hK hC hL hus hnd
          have h1 : IsT w' (ev (.tmp 63)) L1 := e63
          obtain ⟨Ax, cx, qx⟩ := h1.form
          rw [qx] at h1
          have H1 := Lib.hid h1
          clear h1 e63
          unfold Run
          simp [execOp, Upon, go_sem, *]
          exact HK.out _ _ (.inl ⟨Below.refl _ _, by decide⟩) H1.out
        · intro L us ev w' hus hC hL hx hnd K hK
          have e64 := hx.held 9 _ rfl (by kernel_rfl)
          change ev (.tmp 64) = _ at e64
          have HK := Lib.hid hK
          have HC := Lib.hid hC
          have HL := Lib.hid hL
          have HX := Lib.hid hx
          have HUS := Lib.hid hus
          have HND := Lib.hid hnd
          have hc := hx.cst
          skip
          clear hx hK hC hL hus hnd
          unfold Run
          simp [execOp, Upon, go_sem, *]
          exact HK.out _ _ (.inl ⟨Below.refl _ _, by decide⟩) rfl
      · exact rl_mono ⟨is_mono _, is_mono _, is_mono _, is_mono _, byP_mono _ _ _, fwV_mono _ _ _ _, fwV_mono _ _ _ _, brV_mono _ _, isV_mono _, is_mono _, any_mono, any_mono, isV_mono _, is_mono _, trivial⟩
      · exact fun L L' us us' w' h1 h2 hg => hg.agree (h1 10 (by simp)) (h1 11 (by simp)) (h2 10 (by simp))
      · exact fun L us w' w'' hb hg => hg.below hb
      · kernel_rfl
      · exact ⟨Below.refl _ _, fun h => (by cases h)⟩
      · simp
      intro us wr hG hH
      obtain ⟨-, -, -, -, -, -, -, -, -, -, -, -, h12, h13, -⟩ := hH
      simp only [fillM]
      obtain ⟨hB9, hN9⟩ := hG
      obtain ⟨gn, hgn, hgb, -, hvn⟩ := hN9 rfl
      rw [hgn]
      have HVN := Lib.hid (hvn rfl)
      have HGB := Lib.hid hgb
      have HB9 := Lib.hid hB9
      clear hB9 hN9 hgb hvn
      change (IsV L1 : Pred) (us 11) wr at h12
      change us 12 = _ at h13
      rw [h13]
      clear h13
      generalize us 56 = v56
      generalize us 57 = v57
      generalize us 58 = v58
      generalize us 59 = v59
      generalize us 60 = v60
      generalize us 61 = v61
      generalize us 55 = v55
      generalize us 62 = v62
      generalize us 63 = v63
      generalize us 64 = v64
      generalize us 11 = v11 at h12 ⊢
      clear hgn
      have HI9 := Lib.hid h12
      clear h12
      generalize wr = wp at HVN HB9 HI9 ⊢
      have HQP := Lib.hid ((HB9.out.block Q (row_lt HQ.out)).trans HQ.out)
      have HVP := Lib.hid (HVQ.out.below HB9.out)
      have HRP := Lib.hid (HRQ.out.below HB9.out)
      have HV0P := Lib.hid (HV0.out.below HB9.out)
      have HBP := Lib.hid (HBQ.out.trans (HB9.out.mono HBQ.out.size))
      have HNG : Hid (¬ gn = N ∧ ¬ gn = X) := ⟨fun e => by have := row_lt HNX.out; have := HGB.out; omega, fun e => by
        obtain ⟨s9, h9, -⟩ := HRQ.out
        have := row_lt h9
        have := HGB.out
        omega⟩
      clear HQ HVQ HRQ HV0 HBQ HB9 HNX HKS HGB
      obtain ⟨sx, hnx2, hks2⟩ := HRP.out
      have HNR := Lib.hid hnx2
      have HKR := Lib.hid hks2
      clear hnx2 hks2
      go_upto_region 11 with (fail)
      apply wp_region_relyV [11, 12] [13] (NewR wp 11 12 13 P S1) (RL [Is (.agg #[.int .i64 (P : Int), sx]), Is (.pointer (some ⟨Q, 0, none⟩)), Is (.int .i64 f.port), Is (.agg (fmA f (.slice A' f.raw.length cc))), ByP wp.heap.size (.slice A' f.raw.length cc) f, Is (.string ⟨f.bytes.toArray⟩), FwV P S1 L1 er, FwV P S1 L1 er, BrV P S1, IsV L1, Is (.int .i64 er), Any, Any, IsV L1, Is (.int .i64 er)]) [false, false, false, false, false, false, false, false, false, false, false, false, false, true, true, true, false, false, false, false, false, false, false, false, false, false, false, false, false, false, false, false, false, false, false, false, false, false, false, false, false, false, false, false, false, false, false, false, false, false, false, false, false, false, false, false, false, false, false, false, false, false, false, false, false, true, true, true, true, true, true, true, true, true, true, true, false, false, false, false, false, false, false, false, false, false, false, false, false, false, false, false, false, false, false, false, false, false, false, false, false, false, false, false, false, false, false, false, false, false, false, false, false, false, false, false, false, false, false, false, false, false, false, false, false, false, false, false, false, false, false, false, false, false, false, false, false, false, false, false, false, false, false, false, false, false, false, false, false, false, false, false, false]
      · kernel_rfl
      · kernel_rfl
      · kernel_rfl
      · refine ⟨?_, ?_, ?_, ?_, ?_, ?_, ?_, ?_, ?_, ?_, ?_, ?_, ?_, ?_, ?_, trivial⟩
        · intro L us ev w' hus hC hL hx hnd K hK
          have e7 : ev (.tmp 7) = _ := hx.base 7 (by kernel_rfl)
          have HK := Lib.hid hK
          have HC := Lib.hid hC
          have HL := Lib.hid hL
          have HX := Lib.hid hx
          have HUS := Lib.hid hus
          have HND := Lib.hid hnd
          have hc := hx.cst
          skip
          clear hx hK hC hL hus hnd
          have q1 : ev (.tmp 7) = .pointer (some ⟨X, 0, none⟩) := e7
          have hld := run_loadVar_row (P := Try.prog) w' X 32 32 #[.int .i64 (P : Int), sx] (0, 0) _ ((HC.out.1.block X (row_lt HNR.out)).trans HNR.out) Try.underlying32 rfl (by kernel_rfl)
          unfold Run
          rw [rely_load 32 _ rfl q1 hld]
          exact HK.out _ _ (.inl ⟨Below.refl _ _, by decide⟩) rfl
        · intro L us ev w' hus hC hL hx hnd K hK
          have e9 : ev (.tmp 9) = _ := hx.base 9 (by kernel_rfl)
          have HK := Lib.hid hK
          have HC := Lib.hid hC
          have HL := Lib.hid hL
          have HX := Lib.hid hx
          have HUS := Lib.hid hus
          have HND := Lib.hid hnd
          have hc := hx.cst
          skip
          clear hx hK hC hL hus hnd
          unfold Run
          simp [execOp, Upon, go_sem, *]
          exact HK.out _ _ (.inl ⟨Below.refl _ _, by decide⟩) rfl
        · intro L us ev w' hus hC hL hx hnd K hK
          have e67 := hx.held 1 _ rfl (by kernel_rfl)
          change ev (.tmp 67) = _ at e67
          have HK := Lib.hid hK
          have HC := Lib.hid hC
          have HL := Lib.hid hL
          have HX := Lib.hid hx
          have HUS := Lib.hid hus
          have HND := Lib.hid hnd
          have hc := hx.cst
          skip
          clear hx hK hC hL hus hnd
          obtain ⟨c0, c1, c2, c3⟩ := four_cells ((HC.out.1.block Q (row_lt HQP.out)).trans HQP.out)
          unfold Run
          simp [execOp, Upon, go_sem, *]
          exact HK.out _ _ (.inl ⟨Below.refl _ _, by decide⟩) rfl
        · intro L us ev w' hus hC hL hx hnd K hK
          have e9 : ev (.tmp 9) = _ := hx.base 9 (by kernel_rfl)
          have HK := Lib.hid hK
          have HC := Lib.hid hC
          have HL := Lib.hid hL
          have HX := Lib.hid hx
          have HUS := Lib.hid hus
          have HND := Lib.hid hnd
          have hc := hx.cst
          skip
          clear hx hK hC hL hus hnd
          have q1 : ev (.tmp 9) = .pointer (some ⟨Q, 0, none⟩) := e9
          have hld := run_loadVar_row (P := Try.prog) w' Q 35 35 (fmA f (.slice A' f.raw.length cc)) (0, 0) _ ((HC.out.1.block Q (row_lt HQP.out)).trans HQP.out) Try.underlying35 rfl (by kernel_rfl)
          unfold Run
          rw [rely_load 35 _ rfl q1 hld]
          exact HK.out _ _ (.inl ⟨Below.refl _ _, by decide⟩) rfl
        · intro L us ev w' hus hC hL hx hnd K hK
          have e69 := hx.held 3 _ rfl (by kernel_rfl)
          change ev (.tmp 69) = _ at e69
          have HK := Lib.hid hK
          have HC := Lib.hid hC
          have HL := Lib.hid hL
          have HX := Lib.hid hx
          have HUS := Lib.hid hus
          have HND := Lib.hid hnd
          have hc := hx.cst
          have hf := hx.fn
          clear hx hK hC hL hus hnd
          have qa : ev (.tmp 69) = .agg (fmA f (.slice A' f.raw.length cc)) := e69
          unfold Run
          simp [execOp, Upon, go_sem, *]
          refine (bytes_any f (.slice A' f.raw.length cc) w' (HV0P.out.below HC.out.1)).mono ?_
          rintro e w2 ⟨v2, rfl, ho, hb⟩
          refine ⟨_, rfl, HK.out _ _ (.inl ⟨hb, by decide⟩) ?_⟩
          rcases ho with ⟨h1, h2⟩ | ho
          · exact .inl ⟨h1, ownk_base h2 HC.out.1.size⟩
          · exact .inr ho
        · intro L us ev w' hus hC hL hx hnd K hK
          have e70 := hx.held 4 _ rfl (by kernel_rfl)
          change (ByP wp.heap.size (.slice A' f.raw.length cc) f : Pred) (ev (.tmp 70)) w' at e70
          have HK := Lib.hid hK
          have HC := Lib.hid hC
          have HL := Lib.hid hL
          have HX := Lib.hid hx
          have HUS := Lib.hid hus
          have HND := Lib.hid hnd
          have hc := hx.cst
          skip
          clear hx hK hC hL hus hnd
          obtain ⟨A7, c7, q7, r7, -⟩ := ByT.ofP e70 (HV0P.out.below HC.out.1)
          have kt := run_text (P := Try.prog) w' 33 9 5 c7 Try.underlying33 Try.underlying5 Try.underlying9 r7
          have q : ev (.tmp 70) = .slice A7 f.bytes.length c7 := q7
          clear e70
          unfold Run
          simp [execOp, Upon, go_sem, *]
          exact HK.out _ _ (.inl ⟨Below.refl _ _, by decide⟩) rfl
        · intro L us ev w' hus hC hL hx hnd K hK
          have e66 := hx.held 0 _ rfl (by kernel_rfl)
          have e68 := hx.held 2 _ rfl (by kernel_rfl)
          have e71 := hx.held 5 _ rfl (by kernel_rfl)
          change ev (.tmp 66) = _ at e66
          change ev (.tmp 68) = _ at e68
          change ev (.tmp 71) = _ at e71
          have HK := Lib.hid hK
          have HC := Lib.hid hC
          have HL := Lib.hid hL
          have HX := Lib.hid hx
          have HUS := Lib.hid hus
          have HND := Lib.hid hnd
          have hc := hx.cst
          have hf := hx.fn
          clear hx hK hC hL hus hnd
          have qa : ev (.tmp 66) = .agg #[.int .i64 (P : Int), sx] := e66
          have hbr : BrT w' (.agg #[.int .i64 (P : Int), sx]) P _ := ⟨_, rfl, HKR.out.below HC.out.1⟩
          have HBR := Lib.hid hbr
          have qf : ev (.tmp 71) = .string ⟨f.bytes.toArray⟩ := e71
          clear hbr e71
          unfold Run
          simp [execOp, Upon, go_sem, *]
          refine (rw_of HBR.out HSL.out HPP.out HFLEN.out HRX.out).mono ?_
          rintro e w2 ⟨v2, rfl, ho, hb⟩
          exact ⟨_, rfl, HK.out _ _ (.inl ⟨hb, by decide⟩) ho⟩
        · intro L us ev w' hus hC hL hx hnd K hK
          have e72 := hx.held 6 _ rfl (by kernel_rfl)
          change (FwV P S1 L1 er : Pred) (ev (.tmp 72)) w' at e72
          have HK := Lib.hid hK
          have HC := Lib.hid hC
          have HL := Lib.hid hL
          have HX := Lib.hid hx
          have HUS := Lib.hid hus
          have HND := Lib.hid hnd
          have hc := hx.cst
          skip
          clear hx hK hC hL hus hnd
          obtain ⟨x1, x2, qx, h1, h2⟩ := e72
          have H1 := Lib.hid h1
          have H2 := Lib.hid h2
          clear h1 h2
          unfold Run
          simp [execOp, Upon, go_sem, *]
          exact HK.out _ _ (.inl ⟨Below.refl _ _, by decide⟩) ⟨x1, x2, rfl, H1.out, H2.out⟩
        · intro L us ev w' hus hC hL hx hnd K hK
          have e65 := hx.held 7 _ rfl (by kernel_rfl)
          change (FwV P S1 L1 er : Pred) (ev (.tmp 65)) w' at e65
          have HK := Lib.hid hK
          have HC := Lib.hid hC
          have HL := Lib.hid hL
          have HX := Lib.hid hx
          have HUS := Lib.hid hus
          have HND := Lib.hid hnd
          have hc := hx.cst
          skip
          clear hx hK hC hL hus hnd
          obtain ⟨x1, x2, qx, h1, h2⟩ := e65
          have H1 := Lib.hid h1
          have H2 := Lib.hid h2
          clear h1 h2
          unfold Run
          simp [execOp, Upon, go_sem, *]
          exact HK.out _ _ (.inl ⟨Below.refl _ _, by decide⟩) H1.out
        · intro L us ev w' hus hC hL hx hnd K hK
          have e65 := hx.held 7 _ rfl (by kernel_rfl)
          change (FwV P S1 L1 er : Pred) (ev (.tmp 65)) w' at e65
          have HK := Lib.hid hK
          have HC := Lib.hid hC
          have HL := Lib.hid hL
          have HX := Lib.hid hx
          have HUS := Lib.hid hus
          have HND := Lib.hid hnd
          have hc := hx.cst
          skip
          clear hx hK hC hL hus hnd
          obtain ⟨x1, x2, qx, h1, h2⟩ := e65
          have H1 := Lib.hid h1
          have H2 := Lib.hid h2
          clear h1 h2
          unfold Run
          simp [execOp, Upon, go_sem, *]
          exact HK.out _ _ (.inl ⟨Below.refl _ _, by decide⟩) H2.out
        · intro L us ev w' hus hC hL hx hnd K hK
          have e65 := hx.held 7 _ rfl (by kernel_rfl)
          change (FwV P S1 L1 er : Pred) (ev (.tmp 65)) w' at e65
          have HK := Lib.hid hK
          have HC := Lib.hid hC
          have HL := Lib.hid hL
          have HX := Lib.hid hx
          have HUS := Lib.hid hus
          have HND := Lib.hid hnd
          have hc := hx.cst
          skip
          clear hx hK hC hL hus hnd
          obtain ⟨x1, x2, qx, h1, h2⟩ := e65
          have H1 := Lib.hid h1
          have H2 := Lib.hid h2
          clear h1 h2
          unfold Run
          simp [execOp, Upon, go_sem, *]
          exact HK.out _ _ (.inl ⟨Below.refl _ _, by decide⟩) rfl
        · intro L us ev w' hus hC hL hx hnd K hK
          have HK := Lib.hid hK
          have HC := Lib.hid hC
          have HL := Lib.hid hL
          have HX := Lib.hid hx
          have HUS := Lib.hid hus
          have HND := Lib.hid hnd
          have hc := hx.cst
          skip
          clear hx hK hC hL hus hnd
          have nst : L 12 = false := Bool.eq_false_iff.2 fun h => by have := HX.out.closed 12 _ 11 rfl h (by kernel_rfl); rw [HL.out] at this; cases this
          unfold Run
          simp [execOp, Upon, go_sem]
          exact HK.out _ _ (.inr ⟨HC.out.alloc nst (by decide), fun j hj hlj u hr => rl_mono (Rs := [Is (.agg #[.int .i64 (P : Int), sx]), Is (.pointer (some ⟨Q, 0, none⟩)), Is (.int .i64 f.port), Is (.agg (fmA f (.slice A' f.raw.length cc))), ByP wp.heap.size (.slice A' f.raw.length cc) f, Is (.string ⟨f.bytes.toArray⟩), FwV P S1 L1 er, FwV P S1 L1 er, BrV P S1, IsV L1, Is (.int .i64 er), Any, Any, IsV L1, Is (.int .i64 er)]) ⟨is_mono _, is_mono _, is_mono _, is_mono _, byP_mono _ _ _, is_mono _, fwV_mono _ _ _ _, fwV_mono _ _ _ _, brV_mono _ _, isV_mono _, is_mono _, any_mono, any_mono, isV_mono _, is_mono _, trivial⟩ j u _ _ ((Below.refl _ _).alloc (Nat.le_refl _) _) hr⟩) trivial
        · intro L us ev w' hus hC hL hx hnd K hK
          have e13 := hx.held 11 _ rfl (by kernel_rfl)
          have e73 := hx.held 8 _ rfl (by kernel_rfl)
          change (Any : Pred) (ev (.tmp 13)) w' at e13
          change (BrV P S1 : Pred) (ev (.tmp 73)) w' at e73
          have HK := Lib.hid hK
          have HC := Lib.hid hC
          have HL := Lib.hid hL
          have HX := Lib.hid hx
          have HUS := Lib.hid hus
          have HND := Lib.hid hnd
          have hc := hx.cst
          skip
          clear hx hK hC hL hus hnd
          have hbr : BrT w' (ev (.tmp 73)) P S1 := e73
          obtain ⟨Ax, nx, cx, qv⟩ := hbr.form
          rw [qv] at hbr
          have nst : L 12 = false := HL.out
          have lal : L 11 = true := HND.out 11 (by kernel_rfl)
          obtain ⟨g, hg, -⟩ := HC.out.2 lal
          have qp : ev (.tmp 13) = .pointer (some ⟨g, 0, none⟩) := (HUS.out 13).trans hg
          obtain ⟨hgh, hnv⟩ := HC.out.store (v := undef) lal nst hg hbr (by decide)
          have hst := run_storeVar_row (P := Try.prog) w' g 32 32 B2 #[.int .i64 (P : Int), .slice Ax nx cx] hgh (by kernel_rfl) rfl (B2_ones _ _ _ _)
          unfold Run
          rw [rely_store 32 _ _ rfl qp qv hst]
          refine HK.out _ _ (.inr ⟨hnv.agree rfl rfl rfl, fun j hj hlj u hr => ?_⟩) trivial
          rcases j with _ | _ | _ | _ | _ | _ | _ | _ | _ | _ | _ | _ | _ | _ | _ | j
          · exact hr
          · exact hr
          · exact hr
          · exact hr
          · exact byR_set hr hgh _
          · exact hr
          · exact fwR_set hr hgh _
          · exact fwR_set hr hgh _
          · exact brR_set hr hgh _
          · exact isR_set hr hgh _
          · exact hr
          · exact trivial
          · exact absurd rfl hj
          · exact isR_set hr hgh _
          · exact hr
          · exact trivial
        · intro L us ev w' hus hC hL hx hnd K hK
          have e74 := hx.held 9 _ rfl (by kernel_rfl)
          change (IsV L1 : Pred) (ev (.tmp 74)) w' at e74
          have HK := Lib.hid hK
          have HC := Lib.hid hC
          have HL := Lib.hid hL
          have HX := Lib.hid hx
          have HUS := Lib.hid hus
          have HND := Lib.hid hnd
          have hc := hx.cst
          skip
          clear hx hK hC hL hus hnd
          have h1 : IsT w' (ev (.tmp 74)) L1 := e74
          obtain ⟨Ax, cx, qx⟩ := h1.form
          rw [qx] at h1
          have H1 := Lib.hid h1
          clear h1 e74
          unfold Run
          simp [execOp, Upon, go_sem, *]
          exact HK.out _ _ (.inl ⟨Below.refl _ _, by decide⟩) H1.out
        · intro L us ev w' hus hC hL hx hnd K hK
          have e75 := hx.held 10 _ rfl (by kernel_rfl)
          change ev (.tmp 75) = _ at e75
          have HK := Lib.hid hK
          have HC := Lib.hid hC
          have HL := Lib.hid hL
          have HX := Lib.hid hx
          have HUS := Lib.hid hus
          have HND := Lib.hid hnd
          have hc := hx.cst
          skip
          clear hx hK hC hL hus hnd
          unfold Run
          simp [execOp, Upon, go_sem, *]
          exact HK.out _ _ (.inl ⟨Below.refl _ _, by decide⟩) rfl
      · exact rl_mono ⟨is_mono _, is_mono _, is_mono _, is_mono _, byP_mono _ _ _, is_mono _, fwV_mono _ _ _ _, fwV_mono _ _ _ _, brV_mono _ _, isV_mono _, is_mono _, any_mono, any_mono, isV_mono _, is_mono _, trivial⟩
      · exact fun L L' us us' w' h1 h2 hg => hg.agree (h1 11 (by simp)) (h1 12 (by simp)) (h2 13 (by simp))
      · exact fun L us w' w'' hb hg => hg.below hb
      · kernel_rfl
      · exact ⟨Below.refl _ _, fun h => (by cases h)⟩
      · simp
      intro us wr hG hH
      obtain ⟨-, -, -, -, -, -, -, -, -, -, -, -, -, h13, h14, -⟩ := hH
      simp only [fillM]
      obtain ⟨hB9, hN9⟩ := hG
      obtain ⟨gr, hgn, hgb, -, hvn⟩ := hN9 rfl
      rw [hgn]
      have HVR := Lib.hid (hvn rfl)
      have HGR := Lib.hid hgb
      have HBR9 := Lib.hid hB9
      clear hB9 hN9 hgb hvn
      change (IsV L1 : Pred) (us 14) wr at h13
      change us 15 = _ at h14
      rw [h14]
      clear h14
      generalize us 66 = v66
      generalize us 67 = v67
      generalize us 68 = v68
      generalize us 69 = v69
      generalize us 70 = v70
      generalize us 71 = v71
      generalize us 72 = v72
      generalize us 65 = v65
      generalize us 73 = v73
      generalize us 74 = v74
      generalize us 75 = v75
      generalize us 14 = v14 at h13 ⊢
      clear hgn
      have HIR := Lib.hid h13
      clear h13
      have HVN1 := Lib.hid (HVN.out.below HBR9.out)
      have HVP1 := Lib.hid (HVP.out.below HBR9.out)
      have HRP1 := Lib.hid (HRP.out.below HBR9.out)
      have HI1 := Lib.hid (HI9.out.below HBR9.out)
      have HBZ := Lib.hid (HBP.out.trans (HBR9.out.mono HBP.out.size))
      have HNH : Hid (¬ gr = N ∧ ¬ gr = X) := ⟨fun e => by
        obtain ⟨s9, h9, -⟩ := HVP.out
        have := row_lt h9
        have := HGR.out
        omega, fun e => by
        obtain ⟨s9, h9, -⟩ := HRP.out
        have := row_lt h9
        have := HGR.out
        omega⟩
      have HXN := HXNE
      have hk1 := HK1.out
      subst hk1
      clear HVN HVP HRP HI9 HBP HNR HKR HQP HV0P HBR9 HGR HFX HRX HK1 HKL
      obtain ⟨s5, n5, k5⟩ := HVP1.out
      obtain ⟨s7, n7, k7⟩ := HRP1.out
      obtain ⟨sg, ng, kg⟩ := HVN1.out
      obtain ⟨sr, nr, kr⟩ := HVR.out
      obtain ⟨Ag, cg, rfl, -⟩ := id kg
      obtain ⟨Ar, cr, rfl, -⟩ := id kr
      have N5z := Lib.hid n5
      have K5z := Lib.hid k5
      have N7z := Lib.hid n7
      have K7z := Lib.hid k7
      have Ngz := Lib.hid ng
      have Kgz := Lib.hid kg
      have Nrz := Lib.hid nr
      have Krz := Lib.hid kr
      clear n5 k5 n7 k7 ng kg nr kr HVP1 HRP1 HVN1 HVR
      obtain ⟨Ao, co, qo, hto, -⟩ := HI1.out
      obtain ⟨Aw, cw, qw, htw, -⟩ := HIR.out
      rw [qo, qw]
      obtain ⟨m, hm⟩ : ∃ m, L1.length = m := ⟨_, rfl⟩
      have HM := Lib.hid hm
      have hm9 : m ≤ 9 := by rw [← hm]; exact HML.out
      rw [hm]
      have HTO := Lib.hid hto
      have HTW := Lib.hid htw
      clear qo qw hto htw hm HI1 HIR
      generalize wr = wz at N5z K5z N7z K7z Ngz Kgz Nrz Krz HTO HTW HBZ ⊢
      obtain ⟨x0, x1⟩ := two_cells N7z.out
      obtain ⟨x2, x3⟩ := two_cells N5z.out
      go_wp2_with fail
      refine (like_any (.agg #[.int .i64 (P : Int), s7]) (.agg #[.int .i64 (P : Int), s5]) P S wz ⟨_, rfl, K7z.out⟩ ⟨_, rfl, K5z.out⟩ (by have := HSL.out; omega)).mono ?_
      rintro e wa ⟨rfl, hba⟩
      have N5a := Lib.hid (old_below N5z.out hba (row_lt N5z.out))
      have K5a := Lib.hid (K5z.out.below hba)
      have N7a := Lib.hid (old_below N7z.out hba (row_lt N7z.out))
      have K7a := Lib.hid (K7z.out.below hba)
      have Nga := Lib.hid (old_below Ngz.out hba (row_lt Ngz.out))
      have Kga := Lib.hid (Kgz.out.below hba)
      have Nra := Lib.hid (old_below Nrz.out hba (row_lt Nrz.out))
      have Kra := Lib.hid (Krz.out.below hba)
      have HTO1 := Lib.hid (HTO.out.below hba (Nat.le_refl _))
      have HTW1 := Lib.hid (HTW.out.below hba (Nat.le_refl _))
      have HBA := Lib.hid (HBZ.out.trans (hba.mono HBZ.out.size))
      clear hba HTO HTW HBZ x0 x1 x2 x3
      clear N5z K5z N7z K7z Ngz Kgz Nrz Krz
      obtain ⟨x0, x1⟩ := two_cells Nra.out
      obtain ⟨x2, x3⟩ := two_cells Nga.out
      go_wp2_with fail
      refine (like_any (.agg #[.int .i64 (P : Int), .slice Ar S1.length cr]) (.agg #[.int .i64 (P : Int), .slice Ag (KF S1).length cg]) P S1 wa ⟨_, rfl, Kra.out⟩ ⟨_, rfl, Kga.out⟩ (by have := HS1.out; omega)).mono ?_
      rintro e wb ⟨rfl, hbb⟩
      have N5b := Lib.hid (old_below N5a.out hbb (row_lt N5a.out))
      have K5b := Lib.hid (K5a.out.below hbb)
      have N7b := Lib.hid (old_below N7a.out hbb (row_lt N7a.out))
      have K7b := Lib.hid (K7a.out.below hbb)
      have Ngb := Lib.hid (old_below Nga.out hbb (row_lt Nga.out))
      have Kgb := Lib.hid (Kga.out.below hbb)
      have Nrb := Lib.hid (old_below Nra.out hbb (row_lt Nra.out))
      have Krb := Lib.hid (Kra.out.below hbb)
      have HTO := Lib.hid (HTO1.out.below hbb (Nat.le_refl _))
      have HTW := Lib.hid (HTW1.out.below hbb (Nat.le_refl _))
      have HBB := Lib.hid (HBA.out.trans (hbb.mono HBA.out.size))
      clear hbb HTO1 HTW1 HBA x0 x1 x2 x3
      clear N5a K5a N7a K7a Nga Kga Nra Kra
      go_wp2
      go_loopw [100] (fun t100 wr => ∃ q : Nat, q ≤ m ∧ t100 = .int .i64 (q : Int) ∧ Hid (Below wb.heap.size wb wr)) (fun t100 _ => m - (intOf t100).toNat)
      case atStart => exact ⟨0, Nat.zero_le _, rfl, Lib.hid (Below.refl _ _)⟩
      case round =>
        obtain ⟨q, hq, rfl, HBQ2⟩ := hrel
        by_cases hlq : q < m
        · obtain ⟨p, hp⟩ : ∃ p, L1[q]? = some p := ⟨_, List.getElem?_eq_getElem (by rw [HM.out]; exact hlq)⟩
          obtain ⟨ao, rfl, hc1⟩ := int_cells (HTO.out.below HBQ2.out (Nat.le_refl _)) hp
          obtain ⟨aw, rfl, hc2⟩ := int_cells (HTW.out.below HBQ2.out (Nat.le_refl _)) hp
          have d1 := fun d os => cell_regrown hc1 d os
          have d2 := fun d os => cell_regrown hc2 d os
          clear hc1 hc2 hp
          go_upto_region 17 with (fail)
          refine wp_region_quiet_below (by kernel_rfl) (by kernel_rfl) ?_
          repeat (first | go_big_quiet_step (fail) | quiet_step (fail))
          refine wpQuiet_nil ?_
          intro w3 hw'
          obtain ⟨⟨dq, osq⟩, rfl⟩ := hw'
          have HB3 := Lib.hid (HBQ2.out.trans ((below_regrown wr dq osq).mono HBQ2.out.size))
          generalize Sort.grow (redrawn wr dq) osq = w3 at HB3 ⊢
          clear d1 d2
          go_wp2
          go_roundw
          case rel => first | exact ⟨q + 1, by omega, by go_num, HB3⟩ | exact ⟨q + 1, by omega, by first | rfl | omega⟩
          case measure => simp [intOf]; omega
        · obtain rfl : q = m := by omega
          have N5w := Lib.hid (old_below N5b.out HBQ2.out (row_lt N5b.out))
          have K5w := Lib.hid (K5b.out.below HBQ2.out)
          have N7w := Lib.hid (old_below N7b.out HBQ2.out (row_lt N7b.out))
          have K7w := Lib.hid (K7b.out.below HBQ2.out)
          have Ngw := Lib.hid (old_below Ngb.out HBQ2.out (row_lt Ngb.out))
          have Kgw := Lib.hid (Kgb.out.below HBQ2.out)
          have Nrw := Lib.hid (old_below Nrb.out HBQ2.out (row_lt Nrb.out))
          have Krw := Lib.hid (Krb.out.below HBQ2.out)
          have HBW := Lib.hid (HBB.out.trans (HBQ2.out.mono HBB.out.size))
          clear N5b K5b N7b K7b Ngb Kgb Nrb Krb
          clear HBB HBQ2 HTO HTW
          go_upto_region 20 with (fail)
          generalize wr = wy at N5w K5w N7w K7w Ngw Kgw Nrw Krw HBW ⊢
          apply wp_region_relyG [2, 3] (fun L w' => Gro (fun j => j = N ∨ j = X) wy w' ∧ w'.heap[N]? = some (.cells (if L 2 then #[.int .i64 (P : Int), .slice Ag (KF S1).length cg] else #[.int .i64 (P : Int), s5]) 27 (0, 0)) ∧ w'.heap[X]? = some (.cells (if L 3 then #[.int .i64 (P : Int), .slice Ar S1.length cr] else #[.int .i64 (P : Int), s7]) 32 (0, 0))) (RL [Is (.agg #[.int .i64 (P : Int), .slice Ag (KF S1).length cg]), Is (.agg #[.int .i64 (P : Int), .slice Ar S1.length cr]), Any, Any]) [false, false, false, false, false, false, false, false, false, false, false, false, false, false, false, false, false, false, false, false, false, false, false, false, false, false, false, false, false, false, false, false, false, false, false, false, false, false, false, false, false, false, false, false, false, false, false, false, false, false, false, false, false, false, false, false, false, false, false, false, false, false, false, false, false, false, false, false, false, false, false, false, false, false, false, false, false, false, false, false, false, false, false, false, false, false, false, false, false, false, false, false, false, false, false, false, false, false, false, false, false, false, false, false, false, false, false, false, false, false, false, false, false, true, true, false, false, false, false, false, false, false, false, false, false, false, false, false, false, false, false, false, false, false, false, false, false, false, false, false, false, false, false, false, false, false, false, false, false, false, false, false, false]
          · kernel_rfl
          · kernel_rfl
          · kernel_rfl
          · refine ⟨?_, ?_, ?_, ?_, trivial⟩
            · intro L ev w' hC hL hx K hK
              have e10 : ev (.tmp 10) = _ := hx.base 10 (by kernel_rfl)
              have HK := Lib.hid hK
              have HC := Lib.hid hC
              have HL := Lib.hid hL
              have HX := Lib.hid hx
              have hc := hx.cst
              skip
              clear hx hK hC hL
              have q1 : ev (.tmp 10) = .pointer (some ⟨gn, 0, none⟩) := e10
              have hld := run_loadVar_row (P := Try.prog) w' gn 27 27 #[.int .i64 (P : Int), .slice Ag (KF S1).length cg] (0, 0) _ ((HC.out.1.block gn (row_lt Ngw.out) (fun e => e.elim HNG.out.1 HNG.out.2)).trans Ngw.out) Try.underlying27 rfl (by kernel_rfl)
              unfold Run
              rw [rely_load 27 _ rfl q1 hld]
              exact HK.out _ _ (.inl ⟨Below.refl _ _, by decide⟩) rfl
            · intro L ev w' hC hL hx K hK
              have e13 : ev (.tmp 13) = _ := hx.base 13 (by kernel_rfl)
              have HK := Lib.hid hK
              have HC := Lib.hid hC
              have HL := Lib.hid hL
              have HX := Lib.hid hx
              have hc := hx.cst
              skip
              clear hx hK hC hL
              have q1 : ev (.tmp 13) = .pointer (some ⟨gr, 0, none⟩) := e13
              have hld := run_loadVar_row (P := Try.prog) w' gr 32 32 #[.int .i64 (P : Int), .slice Ar S1.length cr] (0, 0) _ ((HC.out.1.block gr (row_lt Nrw.out) (fun e => e.elim HNH.out.1 HNH.out.2)).trans Nrw.out) Try.underlying32 rfl (by kernel_rfl)
              unfold Run
              rw [rely_load 32 _ rfl q1 hld]
              exact HK.out _ _ (.inl ⟨Below.refl _ _, by decide⟩) rfl
            · intro L ev w' hC hL hx K hK
              have e5 : ev (.tmp 5) = _ := hx.base 5 (by kernel_rfl)
              have e113 := hx.held 0 _ rfl (by kernel_rfl)
              change ev (.tmp 113) = _ at e113
              have HK := Lib.hid hK
              have HC := Lib.hid hC
              have HL := Lib.hid hL
              have HX := Lib.hid hx
              have hc := hx.cst
              skip
              clear hx hK hC hL
              have q1 : ev (.tmp 5) = .pointer (some ⟨N, 0, none⟩) := e5
              have q2 : ev (.tmp 113) = .agg #[.int .i64 (P : Int), .slice Ag (KF S1).length cg] := e113
              obtain ⟨g1, g2, g3⟩ := HC.out
              have g2' : w'.heap[N]? = some (.cells #[.int .i64 (P : Int), s5] 27 (0, 0)) := by
                have g9 := g2
                rw [HL.out] at g9
                exact g9
              have hst := run_storeVar_row (P := Try.prog) w' N 27 27 #[.int .i64 (P : Int), s5] #[.int .i64 (P : Int), .slice Ag (KF S1).length cg] g2' (by kernel_rfl) rfl (B2_ones _ _ _ _)
              unfold Run
              rw [rely_store 27 _ _ rfl q1 q2 hst]
              refine HK.out _ _ (.inr ⟨⟨gro_set2 g1 (.inl rfl) g2' rfl, setRow_heap _ _ _ _ _ _ g2', (setRow_other _ _ _ _ HXN.out).trans g3⟩, ?_⟩) trivial
              intro j hj hlj u hr
              rcases j with _ | _ | _ | _ | j
              · exact hr
              · exact hr
              · exact trivial
              · exact trivial
              · exact trivial
            · intro L ev w' hC hL hx K hK
              have e7 : ev (.tmp 7) = _ := hx.base 7 (by kernel_rfl)
              have e114 := hx.held 1 _ rfl (by kernel_rfl)
              change ev (.tmp 114) = _ at e114
              have HK := Lib.hid hK
              have HC := Lib.hid hC
              have HL := Lib.hid hL
              have HX := Lib.hid hx
              have hc := hx.cst
              skip
              clear hx hK hC hL
              have q1 : ev (.tmp 7) = .pointer (some ⟨X, 0, none⟩) := e7
              have q2 : ev (.tmp 114) = .agg #[.int .i64 (P : Int), .slice Ar S1.length cr] := e114
              obtain ⟨g1, g2, g3⟩ := HC.out
              have g3' : w'.heap[X]? = some (.cells #[.int .i64 (P : Int), s7] 32 (0, 0)) := by
                have g9 := g3
                rw [HL.out] at g9
                exact g9
              have hst := run_storeVar_row (P := Try.prog) w' X 32 32 #[.int .i64 (P : Int), s7] #[.int .i64 (P : Int), .slice Ar S1.length cr] g3' (by kernel_rfl) rfl (B2_ones _ _ _ _)
              unfold Run
              rw [rely_store 32 _ _ rfl q1 q2 hst]
              refine HK.out _ _ (.inr ⟨⟨gro_set2 g1 (.inr rfl) g3' rfl, (setRow_other _ _ _ _ (fun e => HXN.out e.symm)).trans g2, setRow_heap _ _ _ _ _ _ g3'⟩, ?_⟩) trivial
              intro j hj hlj u hr
              rcases j with _ | _ | _ | _ | j
              · exact hr
              · exact hr
              · exact trivial
              · exact trivial
              · exact trivial
          · exact rl_mono ⟨is_mono _, is_mono _, any_mono, any_mono, trivial⟩
          · exact fun L L' w1 he h => ⟨h.1, by rw [← he 2 (by simp)]; exact h.2.1, by rw [← he 3 (by simp)]; exact h.2.2⟩
          · exact fun L w1 w2 hb h => ⟨h.1.trans (Gro.of hb), (hb.block _ (row_lt h.2.1)).trans h.2.1, (hb.block _ (row_lt h.2.2)).trans h.2.2⟩
          · exact ⟨Gro.refl _, N5w.out, N7w.out⟩
          · simp
          intro us wr hG hH
          obtain ⟨-, -, -, -, -⟩ := hH
          simp only [fillM]
          generalize us 113 = v113
          generalize us 114 = v114
          obtain ⟨g1, g2, g3⟩ := hG
          have hkeep : ∀ (g : Nat) (C : Array Value), wy.heap[g]? = some (.cells C 58 (0, 0)) → wr.heap[g]? = wy.heap[g]? := fun g C hC => g1.block g (row_lt hC) fun e => e.elim (not_ln hC N5w.out (by decide)) (not_ln hC N7w.out (by decide))
          have HV3 : Hid (VarB N P (KF S1) wr) := ⟨_, g2, Kgw.out.keep hkeep⟩
          have HR3 : Hid (VarR X P S1 wr) := ⟨_, g3, Krw.out.keep hkeep⟩
          have HB3 : Hid (Below w.heap.size w wr) := HBW.out.trans (g1.below (fun k hk => hk.elim (fun e => by rw [e]; exact HNW.out) (fun e => by rw [e]; exact HXW.out)) HBW.out.size)
          clear g1 g2 g3 hkeep HBW
          clear N5w K5w N7w K7w Ngw Kgw Nrw Krw
          generalize wr = wy at HV3 HR3 HB3 ⊢
          go_wp2
          go_loopw [115] (fun t115 wr => ∃ c : Nat, c ≤ 20 ∧ t115 = .int .u8 (c : Int) ∧ Hid (VarB N P (KF S1) wr) ∧ Hid (VarR X P S1 wr) ∧ Hid (Below w.heap.size w wr)) (fun t115 _ => 20 - (intOf t115).toNat)
          case atStart => exact ⟨0, by omega, rfl, HV3, HR3, HB3⟩
          case round =>
            obtain ⟨c, hc, rfl, HV, HR, HBE⟩ := hrel
            clear HV3 HR3 HB3
            by_cases hlc : c < 20
            · obtain ⟨x, rfl⟩ : ∃ x : UInt8, x.toNat = c := ⟨UInt8.ofNat c, by simp; omega⟩
              have hlc2 : (x.toNat : Int) < 20 := by omega
              obtain ⟨sb2, nb, kb⟩ := HV.out
              obtain ⟨sx2, nx, kx⟩ := HR.out
              have NB := Lib.hid nb
              have NX := Lib.hid nx
              have KX := Lib.hid kx
              have HFI := Lib.hid (find_any (.agg #[.int .i64 (P : Int), sb2]) P (KF S1) (mc x) wr ⟨_, rfl, kb⟩ (Nat.le_trans (kf_le S1) (by decide)))
              clear nb kb nx kx
              go_wp2_with (first | refine wpList_load_row rfl 27 _ rfl N rfl 27 #[.int .i64 (P : Int), sb2] (0, 0) _ NB.out Try.underlying27 rfl (by kernel_rfl) ?_)
              refine HFI.out.mono ?_
              rintro e w5 ⟨rfl, hb5⟩
              have HV5 := Lib.hid (HV.out.below hb5)
              have HR5 := Lib.hid (HR.out.below hb5)
              have NX5 := Lib.hid (old_below NX.out hb5 (row_lt NX.out))
              have KX5 := Lib.hid (KX.out.below hb5)
              have HB5 := Lib.hid (HBE.out.trans (hb5.mono HBE.out.size))
              clear hb5 HV HR NB NX KX HFI HBE
              go_wp2_with (first | refine wpList_load_row rfl 32 _ rfl X rfl 32 #[.int .i64 (P : Int), sx2] (0, 0) _ NX5.out Try.underlying32 rfl (by kernel_rfl) ?_)
              refine (reffind_any (.agg #[.int .i64 (P : Int), sx2]) P S1 (mc x) w5 ⟨_, rfl, KX5.out⟩ (by have := HS1.out; omega)).mono ?_
              rintro e w6 ⟨rfl, hb6⟩
              have HV6 := Lib.hid (HV5.out.below hb6)
              have HR6 := Lib.hid (HR5.out.below hb6)
              have HB6 := Lib.hid (HB5.out.trans (hb6.mono HB5.out.size))
              clear hb6 HV5 HR5 NX5 KX5 HB5
              cases hok : (findX (KF S1) (mc x)).2
              · have h1 := find_false hok
                have h2 := to_none hok
                rw [h1, h2]
                clear hok h1 h2
                go_wp2
                go_roundw
                case rel => exact ⟨x.toNat + 1, by omega, by go_num, HV6, HR6, HB6⟩
                case measure => simp [intOf]; omega
              · have h2 := to_some hok
                rw [h2]
                clear hok h2
                generalize (findX (KF S1) (mc x)).1 = p
                have hp0 : ¬ (p : Int) < 0 := by omega
                have hp1 : (0 : Int) ≤ (p : Int) := by omega
                go_wp2
                go_roundw
                case rel => exact ⟨x.toNat + 1, by omega, by go_num, HV6, HR6, HB6⟩
                case measure => simp [intOf]; omega
            · obtain rfl : c = 20 := by omega
              go_wp2
              go_roundw
              case rel => exact ⟨j + 1, S1, by omega, by go_num, HS1.out, HV, HR, HEV1, HPO1, HBE⟩
              case measure => simp [intOf]; omega
    · obtain rfl : j = n := by omega
      go_wp2
      go_ret
      exact ⟨rfl, HBE.out⟩
end Go.Proofs.Ytecbelnmdimnkaa
