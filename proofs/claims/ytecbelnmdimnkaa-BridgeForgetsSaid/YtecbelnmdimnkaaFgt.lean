/-
  The law BridgeForgets: every two slices of bytes. No condition.
-/
import Derived.Test.YtecbelnmdimnkaaFgM
namespace Go.Proofs.Ytecbelnmdimnkaa
open Go.RowKit Go.Maps

theorem ownk_turn {w w' : World} {base k M n : Nat} {e : TypeId} {v : Value} {xs : List Value} (h : w.ownsRow base e k v n xs) (hg : ∀ C t fr, w.heap[M]? ≠ some (.cells C t fr)) (hk : w.grownBy w' (some M)) : w'.ownsRow base e k v n xs := by
  refine ⟨h.1, ?_⟩
  rcases h.2 with h | ⟨g', cap, cur, rfl, h1, h2, h3⟩
  · exact .inl h
  · exact .inr ⟨g', cap, cur, rfl, h1, (hk.block g' (row_lt h2) fun e => hg _ _ _ (by injection e with e; rw [← e]; exact h2)).trans h2, h3⟩
theorem VarB.turn {N M P : Nat} {K : List Ln} {w w' : World} (h : VarB N P K w) (hg : ∀ C t fr, w.heap[M]? ≠ some (.cells C t fr)) (hk : w.grownBy w' (some M)) : VarB N P K w' := by
  obtain ⟨s, h1, h2⟩ := h
  exact ⟨s, (hk.block N (row_lt h1) fun e => hg _ _ _ (by injection e with e; rw [← e]; exact h1)).trans h1, h2.keep fun g C hC => hk.block g (row_lt hC) fun e => hg _ _ _ (by injection e with e; rw [← e]; exact hC)⟩
theorem ownm_more {R : Value → Option (DataW Unit × List MemPlace)} {k : TypeId} {M n m : Nat} {D : DataW Unit} {w : World} (h : w.ownsMap Try.prog k R M n D) (hm : n ≤ m) : w.ownsMap Try.prog k R M m D := by
  obtain ⟨es, clock, h1, h2, h3, h4⟩ := h
  exact ⟨es, clock, h1, h2, by omega, h4⟩
set_option maxRecDepth 100000 in
set_option maxHeartbeats 16000000 in
theorem forgets_any (A0 : Option Addr) (c0 : Nat) (A1 : Option Addr) (c1 : Nat) (D E : List UInt8) (w : World) (h0 : Rd w 0 w.heap.size A0 (cells D)) (h1 : Rd w 0 w.heap.size A1 (cells E)) (hn0 : D.length ≤ 140737488351232) (hn1 : E.length ≤ 140737488351232) :
    Calls Try.prog 5 #[.slice A0 D.length c0, .slice A1 E.length c1] w fun e w' => e = .returned (.bool true) ∧ Below w.heap.size w w' := by
  obtain ⟨n, hn⟩ : ∃ n, D.length = n := ⟨_, rfl⟩
  obtain ⟨m, hm⟩ : ∃ m, E.length = m := ⟨_, rfl⟩
  rw [hn] at hn0
  rw [hm] at hn1
  rw [hn, hm]
  have HD := Lib.hid hn
  have HE := Lib.hid hm
  have HR0 := Lib.hid h0
  have HR1 := Lib.hid h1
  have hmm := @run_makeMap Try.prog
  clear hn hm h0 h1
  go_enter Try.func5, Try.ntmps5
  go_wp2_with fail
  refine (lives_any _).mono ?_
  rintro e w1 ⟨rfl, hb1⟩
  have HB1 := Lib.hid hb1
  clear hb1
  rcases Nat.lt_or_ge 80 n with h80 | h80
  · go_wp2_with fail
    refine (lives_any _).mono ?_
    rintro e w3 ⟨rfl, hb3⟩
    have HB3 := Lib.hid (HB1.out.trans (hb3.mono HB1.out.size))
    clear hb3
    go_wp2
    go_ret
    exact ⟨rfl, HB3.out⟩
  rcases Nat.lt_or_ge 80 m with h81 | h81
  · go_wp2_with fail
    refine (lives_any _).mono ?_
    rintro e w3 ⟨rfl, hb3⟩
    have HB3 := Lib.hid (HB1.out.trans (hb3.mono HB1.out.size))
    clear hb3
    go_wp2
    go_ret
    exact ⟨rfl, HB3.out⟩
  clear hn0 hn1
  obtain ⟨P, hP⟩ : ∃ P, P = 8 := ⟨_, rfl⟩
  have HNEW : Hid (Calls Try.prog 8 #[.int .i64 8] w1 fun e w' => e = .returned (.tuple #[.agg #[.int .i64 (P : Int), .slice none 0 0], .int .i64 0]) ∧ Below w1.heap.size w1 w') := by rw [hP]; exact new_ok 8 w1 (by decide) (by decide)
  have HPP : Hid (P ≤ 8) := by show P ≤ 8; omega
  have HP8 : Hid (P = 8) := hP
  clear hP
  go_wp2_with fail
  refine HNEW.out.mono ?_
  rintro e w3 ⟨rfl, hb3⟩
  have HBA : Hid (Below w.heap.size w (w3.alloc (.cells #[.int .i64 (P : Int), .slice none 0 0] 27))) := (HB1.out.trans (hb3.mono HB1.out.size)).alloc (Nat.le_trans HB1.out.size hb3.size) _
  have HVA : Hid (VarB w3.heap.size P [] (w3.alloc (.cells #[.int .i64 (P : Int), .slice none 0 0] 27))) := ⟨_, heap_alloc_new w3 _, KsT.nil⟩
  have HNW : Hid (w.heap.size ≤ w3.heap.size) := Nat.le_trans HB1.out.size hb3.size
  clear hb3 HB1 HNEW
  go_upto_region 4 with (refine wpList_store_new rfl 27 _ _ rfl w3 B2 #[.int .i64 (P : Int), .slice none 0 0] rfl rfl (by kernel_rfl) rfl (B2_ones _ _ _ _) ?_)
  generalize w3.alloc (.cells #[.int .i64 (P : Int), .slice none 0 0] 27) = wa at HBA HVA ⊢
  generalize w3.heap.size = N at HVA HNW ⊢
  have HVB := Lib.hid (HVA.out.below ((Below.refl wa.heap.size wa).alloc (Nat.le_refl _) (.map #[] 0)))
  have HMB : Hid (OwnI wa.heap.size 0 (.map []) (wa.alloc (.map #[] 0))) := World.ownsMap_made _ _ _ _
  have HBB : Hid (Below w.heap.size w (wa.alloc (.map #[] 0))) := HBA.out.alloc HBA.out.size _
  have HNM : Hid (w.heap.size ≤ wa.heap.size) := HBA.out.size
  go_upto_region 7 with (fail)
  generalize wa.alloc (.map #[] 0) = wb at HVB HMB HBB ⊢
  generalize wa.heap.size = M at HMB HNM ⊢
  clear HVA HBA hmm
  go_wp2
  go_loopw [8, 42] (fun t8 t42 wr => ∃ (k : Nat) (Dm : DataW Unit), k ≤ n ∧ t42 = .int .i64 (k : Int) ∧ Hid (VarB N P (KF (seenS D E k)) wr) ∧ Hid (OwnI M k Dm wr) ∧ Hid (IsMap Dm) ∧ Hid (NotedI (seenS D E k) Dm) ∧ Hid (wr.ownsRow w.heap.size 5 1 t8 k (cells (D.take k))) ∧ Hid (Below w.heap.size w wr)) (fun _ t42 _ => n - (intOf t42).toNat)
  case atStart => exact ⟨0, .map [], Nat.zero_le _, rfl, HVB, HMB, (isMap_empty : IsMap (.map [] : DataW Unit)), noted_start, World.ownsRow_nil _ _ _ _, HBB⟩
  case round =>
    obtain ⟨k, Dm, hk, rfl, HV, HMI, HIM, HNO, HOW, HBE⟩ := hrel
    clear HVB HMB HBB
    generalize u8 = v8 at HOW ⊢
    by_cases hlt : k < n
    · obtain ⟨x, hx⟩ : ∃ x, D[k]? = some x := ⟨_, List.getElem?_eq_getElem (by rw [HD.out]; exact hlt)⟩
      have HSS := Lib.hid (seenS_succ D E k x hx)
      have HTK : Hid (cells (D.take (k + 1)) = cells (D.take k) ++ [.int .u8 (x.toNat : Int)]) := by
        show _ = _
        have hk2 := (List.getElem?_eq_some_iff.1 hx).1
        rw [List.take_succ_eq_append_getElem hk2, (List.getElem?_eq_some_iff.1 hx).2, cells_append]
        rfl
      have HPL : Hid (ptOf E k < 8) := ptOf_lt E k
      have hk2 := (List.getElem?_eq_some_iff.1 hx).1
      obtain ⟨ad, rfl, hcell⟩ := (HR0.out.below HBE.out (Nat.le_refl _)).byte hk2
      rw [(List.getElem?_eq_some_iff.1 hx).2] at hcell
      clear hx hk2
      by_cases hke : k < m
      · have hk3 : k < E.length := by rw [HE.out]; exact hke
        obtain ⟨ad1, rfl, hcell1⟩ := (HR1.out.below HBE.out (Nat.le_refl _)).byte hk3
        obtain ⟨y, hy⟩ : ∃ y, E[k] = y := ⟨_, rfl⟩
        obtain ⟨p, hp⟩ : ∃ p, ptOf E k = p := ⟨_, rfl⟩
        have hpy : p = y.toNat % 8 := by rw [← hp, ← hy]; unfold ptOf; rw [dif_pos hk3]
        rw [hy] at hcell1
        rw [hp] at HSS HPL
        have hr1 : ((y.toNat : Int)).tmod 8 = (p : Int) := by rw [hpy]; rfl
        have hr2 : ((y.toNat : Int)) % 8 = (p : Int) := by rw [hpy]; rfl
        have hr3 : IntKind.i64.wrap (p : Int) = (p : Int) := IntWalk.i64_in _ ⟨by omega, by have := HPL.out; omega⟩
        clear hk3 hy hp hpy
        go_upto_region 14 with (fail)
        clear hr1 hr2 hr3 hcell hcell1
        generalize wr = wq at HV HMI HOW HBE ⊢
        obtain ⟨K, hK⟩ : ∃ K, KF (seenS D E k) = K := ⟨_, rfl⟩
        rw [hK] at HV
        have HKL : Hid (K.length ≤ 16) := by rw [← hK]; exact kf_le _
        obtain ⟨L1, hfx⟩ := fw_mc (P := P) (q := p) K x (by have := HP8.out; have := HPL.out; omega)
        obtain ⟨K1, hK1⟩ : ∃ K1, seeP K (mc x) p = K1 := ⟨_, rfl⟩
        rw [hK1] at hfx
        have HFX : Hid (fwX P K (p : Int) (frB c44 (mc x)) = (K1, L1, 0)) := hfx
        have HKE : Hid (KF (seenS D E (k + 1)) = K1) := by show _ = _; rw [HSS.out, kf_snoc, hK]; exact hK1
        clear hK hfx hK1
        obtain ⟨sb, hnx, hks⟩ := HV.out
        have HNX := Lib.hid hnx
        have HKS := Lib.hid hks
        clear hnx hks HV
        apply wp_region_relyV [11, 12] [12] (NewV wq 11 12 12 P K1) (RL [Is (.agg #[.int .i64 (P : Int), sb]), Is (.int .i64 (p : Int)), Is (.agg (macA c44)), Is (.int .u8 (x.toNat : Int)), Is (.agg (macA (mc x))), OwnL wq.heap.size 14 (frB c44 (mc x)), FwV P K1 L1 0, FwV P K1 L1 0, BrV P K1, IsV L1, Is (.int .i64 0), Any, Any, IsV L1, Is (.int .i64 0)]) [false, false, false, false, false, false, false, false, false, false, false, false, true, true, true, false, false, false, false, false, false, false, false, false, false, false, false, false, false, false, false, false, false, false, false, false, false, false, false, false, false, false, false, false, false, false, false, false, false, false, false, false, false, false, false, false, false, true, true, true, true, true, true, true, true, true, true, true, false, false, false, false, false, false, false, false, false, false, false, false, false, false, false, false, false, false, false, false, false, false, false, false, false, false, false, false, false, false, false, false, false, false, false, false, false, false, false, false, false, false, false, false, false, false, false, false, false, false, false, false, false, false, false, false, false]
        · kernel_rfl
        · kernel_rfl
        · kernel_rfl
        · refine ⟨?_, ?_, ?_, ?_, ?_, ?_, ?_, ?_, ?_, ?_, ?_, ?_, ?_, ?_, ?_, trivial⟩
          · intro L us ev w' hus hC hL hx hnd K hK
            have e5 : ev (.tmp 5) = _ := hx.base 5 (by kernel_rfl)
            have HK := Lib.hid hK
            have HC := Lib.hid hC
            have HL := Lib.hid hL
            have HX := Lib.hid hx
            have HUS := Lib.hid hus
            have HND := Lib.hid hnd
            have hc := hx.cst
            skip
            clear hx hK hC hL hus hnd
            have q1 : ev (.tmp 5) = .pointer (some ⟨N, 0, none⟩) := e5
            have hld := run_loadVar_row (P := Try.prog) w' N 27 27 #[.int .i64 (P : Int), sb] (0, 0) _ ((HC.out.1.block N (row_lt HNX.out)).trans HNX.out) Try.underlying27 rfl (by kernel_rfl)
            unfold Run
            rw [rely_load 27 _ rfl q1 hld]
            exact HK.out _ _ (.inl ⟨Below.refl _ _, by decide⟩) rfl
          · intro L us ev w' hus hC hL hx hnd K hK
            have e11 : ev (.tmp 11) = _ := hx.base 11 (by kernel_rfl)
            have HK := Lib.hid hK
            have HC := Lib.hid hC
            have HL := Lib.hid hL
            have HX := Lib.hid hx
            have HUS := Lib.hid hus
            have HND := Lib.hid hnd
            have hc := hx.cst
            skip
            clear hx hK hC hL hus hnd
            unfold Run
            simp [execOp, Upon, go_sem, *]
            exact HK.out _ _ (.inl ⟨Below.refl _ _, by decide⟩) rfl
          · intro L us ev w' hus hC hL hx hnd K hK
            have HK := Lib.hid hK
            have HC := Lib.hid hC
            have HL := Lib.hid hL
            have HX := Lib.hid hx
            have HUS := Lib.hid hus
            have HND := Lib.hid hnd
            have hc := hx.cst
            skip
            clear hx hK hC hL hus hnd
            unfold Run
            simp [execOp, Upon, go_sem, *]
            exact HK.out _ _ (.inl ⟨Below.refl _ _, by decide⟩) rfl
          · intro L us ev w' hus hC hL hx hnd K hK
            have e10 : ev (.tmp 10) = _ := hx.base 10 (by kernel_rfl)
            have HK := Lib.hid hK
            have HC := Lib.hid hC
            have HL := Lib.hid hL
            have HX := Lib.hid hx
            have HUS := Lib.hid hus
            have HND := Lib.hid hnd
            have hc := hx.cst
            skip
            clear hx hK hC hL hus hnd
            unfold Run
            simp [execOp, Upon, go_sem, *]
            exact HK.out _ _ (.inl ⟨Below.refl _ _, by decide⟩) rfl
          · intro L us ev w' hus hC hL hx hnd K hK
            have e61 := hx.held 3 _ rfl (by kernel_rfl)
            change ev (.tmp 61) = _ at e61
            have HK := Lib.hid hK
            have HC := Lib.hid hC
            have HL := Lib.hid hL
            have HX := Lib.hid hx
            have HUS := Lib.hid hus
            have HND := Lib.hid hnd
            have hc := hx.cst
            skip
            clear hx hK hC hL hus hnd
            unfold Run
            simp [execOp, Upon, go_sem, *]
            exact HK.out _ _ (.inl ⟨Below.refl _ _, by decide⟩) rfl
          · intro L us ev w' hus hC hL hx hnd K hK
            have e60 := hx.held 2 _ rfl (by kernel_rfl)
            have e62 := hx.held 4 _ rfl (by kernel_rfl)
            change ev (.tmp 60) = _ at e60
            change ev (.tmp 62) = _ at e62
            have HK := Lib.hid hK
            have HC := Lib.hid hC
            have HL := Lib.hid hL
            have HX := Lib.hid hx
            have HUS := Lib.hid hus
            have HND := Lib.hid hnd
            have hc := hx.cst
            have hf := hx.fn
            clear hx hK hC hL hus hnd
            have qa : ev (.tmp 60) = .agg (macA c44) := e60
            have qb : ev (.tmp 62) = .agg (macA (mc x)) := e62
            unfold Run
            simp [execOp, Upon, go_sem, *]
            refine (frame_any c44 (mc x) w').mono ?_
            rintro e w2 ⟨A2, c2, rfl, ho, hb⟩
            exact ⟨_, rfl, HK.out _ _ (.inl ⟨hb, by decide⟩) (ownL_of (own_base ho HC.out.1.size) (by decide))⟩
          · intro L us ev w' hus hC hL hx hnd K hK
            have e58 := hx.held 0 _ rfl (by kernel_rfl)
            have e59 := hx.held 1 _ rfl (by kernel_rfl)
            have e63 := hx.held 5 _ rfl (by kernel_rfl)
            change ev (.tmp 58) = _ at e58
            change ev (.tmp 59) = _ at e59
            change (OwnL wq.heap.size 14 (frB c44 (mc x)) : Pred) (ev (.tmp 63)) w' at e63
            have HK := Lib.hid hK
            have HC := Lib.hid hC
            have HL := Lib.hid hL
            have HX := Lib.hid hx
            have HUS := Lib.hid hus
            have HND := Lib.hid hnd
            have hc := hx.cst
            have hf := hx.fn
            clear hx hK hC hL hus hnd
            have qa : ev (.tmp 58) = .agg #[.int .i64 (P : Int), sb] := e58
            have hbr : BrT w' (.agg #[.int .i64 (P : Int), sb]) P _ := ⟨_, rfl, HKS.out.below HC.out.1⟩
            have hf9 := byt_frame e63
            have HBR := Lib.hid hbr
            have HF9 := Lib.hid hf9
            clear hbr hf9 e63
            unfold Run
            simp [execOp, Upon, go_sem, *]
            refine (fw_of HBR.out HKL.out HPP.out HF9.out HFX.out).mono ?_
            rintro e w2 ⟨v2, rfl, ho, hb⟩
            exact ⟨_, rfl, HK.out _ _ (.inl ⟨hb, by decide⟩) ho⟩
          · intro L us ev w' hus hC hL hx hnd K hK
            have e64 := hx.held 6 _ rfl (by kernel_rfl)
            change (FwV P K1 L1 0 : Pred) (ev (.tmp 64)) w' at e64
            have HK := Lib.hid hK
            have HC := Lib.hid hC
            have HL := Lib.hid hL
            have HX := Lib.hid hx
            have HUS := Lib.hid hus
            have HND := Lib.hid hnd
            have hc := hx.cst
            skip
            clear hx hK hC hL hus hnd
            obtain ⟨x1, x2, qx, h1, h2⟩ := e64
            have H1 := Lib.hid h1
            have H2 := Lib.hid h2
            clear h1 h2
            unfold Run
            simp [execOp, Upon, go_sem, *]
            exact HK.out _ _ (.inl ⟨Below.refl _ _, by decide⟩) ⟨x1, x2, rfl, H1.out, H2.out⟩
          · intro L us ev w' hus hC hL hx hnd K hK
            have e57 := hx.held 7 _ rfl (by kernel_rfl)
            change (FwV P K1 L1 0 : Pred) (ev (.tmp 57)) w' at e57
            have HK := Lib.hid hK
            have HC := Lib.hid hC
            have HL := Lib.hid hL
            have HX := Lib.hid hx
            have HUS := Lib.hid hus
            have HND := Lib.hid hnd
            have hc := hx.cst
            skip
            clear hx hK hC hL hus hnd
            obtain ⟨x1, x2, qx, h1, h2⟩ := e57
            have H1 := Lib.hid h1
            have H2 := Lib.hid h2
            clear h1 h2
            unfold Run
            simp [execOp, Upon, go_sem, *]
            exact HK.out _ _ (.inl ⟨Below.refl _ _, by decide⟩) H1.out
          · intro L us ev w' hus hC hL hx hnd K hK
            have e57 := hx.held 7 _ rfl (by kernel_rfl)
            change (FwV P K1 L1 0 : Pred) (ev (.tmp 57)) w' at e57
            have HK := Lib.hid hK
            have HC := Lib.hid hC
            have HL := Lib.hid hL
            have HX := Lib.hid hx
            have HUS := Lib.hid hus
            have HND := Lib.hid hnd
            have hc := hx.cst
            skip
            clear hx hK hC hL hus hnd
            obtain ⟨x1, x2, qx, h1, h2⟩ := e57
            have H1 := Lib.hid h1
            have H2 := Lib.hid h2
            clear h1 h2
            unfold Run
            simp [execOp, Upon, go_sem, *]
            exact HK.out _ _ (.inl ⟨Below.refl _ _, by decide⟩) H2.out
          · intro L us ev w' hus hC hL hx hnd K hK
            have e57 := hx.held 7 _ rfl (by kernel_rfl)
            change (FwV P K1 L1 0 : Pred) (ev (.tmp 57)) w' at e57
            have HK := Lib.hid hK
            have HC := Lib.hid hC
            have HL := Lib.hid hL
            have HX := Lib.hid hx
            have HUS := Lib.hid hus
            have HND := Lib.hid hnd
            have hc := hx.cst
            skip
            clear hx hK hC hL hus hnd
            obtain ⟨x1, x2, qx, h1, h2⟩ := e57
            have H1 := Lib.hid h1
            have H2 := Lib.hid h2
            clear h1 h2
            unfold Run
            simp [execOp, Upon, go_sem, *]
            exact HK.out _ _ (.inl ⟨Below.refl _ _, by decide⟩) rfl
          · intro L us ev w' hus hC hL hx hnd K hK
            have HK := Lib.hid hK
            have HC := Lib.hid hC
            have HL := Lib.hid hL
            have HX := Lib.hid hx
            have HUS := Lib.hid hus
            have HND := Lib.hid hnd
            have hc := hx.cst
            skip
            clear hx hK hC hL hus hnd
            have nst : L 12 = false := Bool.eq_false_iff.2 fun h => by have := HX.out.closed 12 _ 11 rfl h (by kernel_rfl); rw [HL.out] at this; cases this
            unfold Run
            simp [execOp, Upon, go_sem]
            exact HK.out _ _ (.inr ⟨HC.out.alloc nst (by decide), fun j hj hlj u hr => rl_mono (Rs := [Is (.agg #[.int .i64 (P : Int), sb]), Is (.int .i64 (p : Int)), Is (.agg (macA c44)), Is (.int .u8 (x.toNat : Int)), Is (.agg (macA (mc x))), OwnL wq.heap.size 14 (frB c44 (mc x)), FwV P K1 L1 0, FwV P K1 L1 0, BrV P K1, IsV L1, Is (.int .i64 0), Any, Any, IsV L1, Is (.int .i64 0)]) ⟨is_mono _, is_mono _, is_mono _, is_mono _, is_mono _, ownL_mono _ _ _, fwV_mono _ _ _ _, fwV_mono _ _ _ _, brV_mono _ _, isV_mono _, is_mono _, any_mono, any_mono, isV_mono _, is_mono _, trivial⟩ j u _ _ ((Below.refl _ _).alloc (Nat.le_refl _) _) hr⟩) trivial
          · intro L us ev w' hus hC hL hx hnd K hK
            have e12 := hx.held 11 _ rfl (by kernel_rfl)
            have e65 := hx.held 8 _ rfl (by kernel_rfl)
            change (Any : Pred) (ev (.tmp 12)) w' at e12
            change (BrV P K1 : Pred) (ev (.tmp 65)) w' at e65
            have HK := Lib.hid hK
            have HC := Lib.hid hC
            have HL := Lib.hid hL
            have HX := Lib.hid hx
            have HUS := Lib.hid hus
            have HND := Lib.hid hnd
            have hc := hx.cst
            skip
            clear hx hK hC hL hus hnd
            have hbr : BrT w' (ev (.tmp 65)) P K1 := e65
            obtain ⟨Ax, nx, cx, qv⟩ := hbr.form
            rw [qv] at hbr
            have nst : L 12 = false := HL.out
            have lal : L 11 = true := HND.out 11 (by kernel_rfl)
            obtain ⟨g, hg, -⟩ := HC.out.2 lal
            have qp : ev (.tmp 12) = .pointer (some ⟨g, 0, none⟩) := (HUS.out 12).trans hg
            obtain ⟨hgh, hnv⟩ := HC.out.store (v := undef) lal nst hg hbr (by decide)
            have hst := run_storeVar_row (P := Try.prog) w' g 27 27 B2 #[.int .i64 (P : Int), .slice Ax nx cx] hgh (by kernel_rfl) rfl (B2_ones _ _ _ _)
            unfold Run
            rw [rely_store 27 _ _ rfl qp qv hst]
            refine HK.out _ _ (.inr ⟨hnv.agree rfl rfl rfl, fun j hj hlj u hr => ?_⟩) trivial
            rcases j with _ | _ | _ | _ | _ | _ | _ | _ | _ | _ | _ | _ | _ | _ | _ | j
            · exact hr
            · exact hr
            · exact hr
            · exact hr
            · exact hr
            · exact ow_set hr hgh _
            · exact fw_set hr hgh _
            · exact fw_set hr hgh _
            · exact br_set hr hgh _
            · exact is_set hr hgh _
            · exact hr
            · exact trivial
            · exact absurd rfl hj
            · exact is_set hr hgh _
            · exact hr
            · exact trivial
          · intro L us ev w' hus hC hL hx hnd K hK
            have e66 := hx.held 9 _ rfl (by kernel_rfl)
            change (IsV L1 : Pred) (ev (.tmp 66)) w' at e66
            have HK := Lib.hid hK
            have HC := Lib.hid hC
            have HL := Lib.hid hL
            have HX := Lib.hid hx
            have HUS := Lib.hid hus
            have HND := Lib.hid hnd
            have hc := hx.cst
            skip
            clear hx hK hC hL hus hnd
            have h1 : IsT w' (ev (.tmp 66)) L1 := e66
            obtain ⟨Ax, cx, qx⟩ := h1.form
            rw [qx] at h1
            have H1 := Lib.hid h1
            clear h1 e66
            unfold Run
            simp [execOp, Upon, go_sem, *]
            exact HK.out _ _ (.inl ⟨Below.refl _ _, by decide⟩) H1.out
          · intro L us ev w' hus hC hL hx hnd K hK
            have e67 := hx.held 10 _ rfl (by kernel_rfl)
            change ev (.tmp 67) = _ at e67
            have HK := Lib.hid hK
            have HC := Lib.hid hC
            have HL := Lib.hid hL
            have HX := Lib.hid hx
            have HUS := Lib.hid hus
            have HND := Lib.hid hnd
            have hc := hx.cst
            skip
            clear hx hK hC hL hus hnd
            unfold Run
            simp [execOp, Upon, go_sem, *]
            exact HK.out _ _ (.inl ⟨Below.refl _ _, by decide⟩) rfl
        · exact rl_mono ⟨is_mono _, is_mono _, is_mono _, is_mono _, is_mono _, ownL_mono _ _ _, fwV_mono _ _ _ _, fwV_mono _ _ _ _, brV_mono _ _, isV_mono _, is_mono _, any_mono, any_mono, isV_mono _, is_mono _, trivial⟩
        · exact fun L L' us us' w' h1 h2 hg => hg.agree (h1 11 (by simp)) (h1 12 (by simp)) (h2 12 (by simp))
        · exact fun L us w' w'' hb hg => hg.below hb
        · kernel_rfl
        · exact ⟨Below.refl _ _, fun h => (by cases h)⟩
        · simp
        intro us wr hG hH
        obtain ⟨-, -, -, -, -, -, -, -, -, -, -, -, -, h13, h14, -⟩ := hH
        simp only [fillM]
        obtain ⟨hB9, hN9⟩ := hG
        obtain ⟨gn, hgn, hgb, -, hvn⟩ := hN9 rfl
        rw [hgn]
        have HVN := Lib.hid (hvn rfl)
        have HGB := Lib.hid hgb
        have HB9 := Lib.hid hB9
        clear hB9 hN9 hgb hvn
        change (IsV L1 : Pred) (us 13) wr at h13
        change us 14 = _ at h14
        rw [h14]
        clear h14
        generalize us 58 = v58
        generalize us 59 = v59
        generalize us 60 = v60
        generalize us 61 = v61
        generalize us 62 = v62
        generalize us 63 = v63
        generalize us 64 = v64
        generalize us 57 = v57
        generalize us 65 = v65
        generalize us 66 = v66
        generalize us 67 = v67
        generalize us 13 = v13 at h13 ⊢
        clear hgn
        have HI9 := Lib.hid h13
        clear h13
        have HNX9 := Lib.hid ((HB9.out.block N (row_lt HNX.out)).trans HNX.out)
        have HNG : Hid (¬ N = gn) := fun e => by have := row_lt HNX.out; have := HGB.out; omega
        obtain ⟨s1, hg1, hk1⟩ := HVN.out
        obtain ⟨Az, cz, rfl, -⟩ := id hk1
        have HG1 := Lib.hid hg1
        have HVZ : Hid (VarB N P K1 (wr.setRow N #[.int .i64 (P : Int), .slice Az K1.length cz])) := ⟨_, setRow_heap _ _ _ _ _ _ HNX9.out, hk1.setRow HNX9.out (by decide) _⟩
        have HBZ : Hid (Below w.heap.size w (wr.setRow N #[.int .i64 (P : Int), .slice Az K1.length cz])) := below_setRow (HBE.out.trans (HB9.out.mono HBE.out.size)) HNW.out _
        have HMZ : Hid (OwnI M k Dm (wr.setRow N #[.int .i64 (P : Int), .slice Az K1.length cz])) := ownm_set (ownm_below HMI.out HB9.out) HNX9.out #[.int .i64 (P : Int), .slice Az K1.length cz] rfl
        have HOZ : Hid ((wr.setRow N #[.int .i64 (P : Int), .slice Az K1.length cz]).ownsRow w.heap.size 5 1 v8 k (cells (D.take k))) := ownk_other (ownk_below HOW.out HB9.out (Nat.le_refl _)) HNX9.out (by decide) fun j hj => setRow_other _ _ _ _ hj
        clear hg1 hk1 HVN HGB HB9 HNX HKS HI9 HMI HOW HBE
        go_upto_region 16 with (first | refine wpList_load_row rfl 27 _ rfl gn rfl 27 #[.int .i64 (P : Int), .slice Az K1.length cz] (0, 0) _ HG1.out Try.underlying27 rfl (by kernel_rfl) ?_ | refine wpList_store_row rfl 27 _ _ rfl N #[.int .i64 (P : Int), .slice Az K1.length cz] rfl rfl 27 _ HNX9.out (by kernel_rfl) rfl (B2_ones _ _ _ _) ?_)
        generalize wr.setRow N #[.int .i64 (P : Int), .slice Az K1.length cz] = wz at HVZ HBZ HMZ HOZ ⊢
        clear HG1 HNX9 HNG
        have HWF : Hid ((Lit.int .i64 (p : Int)).wf = true) := int_wf (a := p) (by have := HPL.out; omega)
        go_upto_region 19 with (first | (at_mapUpdate; refine wpList_mapUpdate_own _ rfl _ _ _ 53 rfl 5 3 bytelaw Try.underlying53 _ M k _ rfl HMZ.out (by unfold maxLen; omega) _ _ _ rfl rfl (key_byte x) _ [] (plainElem_int Try.underlying3 HWF.out) ?_; intro w12 hown hgrow) | go_in)
        go_frame
        have HM2 : Hid (OwnI M (k + 1) (Dm.put (KB x) (.lit (.int .i64 (p : Int)))) w12) := hown
        have HV2 := Lib.hid (HVZ.out.turn (ownm_cells HMZ.out) hgrow)
        have HO2 := Lib.hid (ownk_turn HOZ.out (ownm_cells HMZ.out) hgrow)
        have HB2 := Lib.hid (HBZ.out.grown hgrow HBZ.out.size fun g hg => by cases hg; exact HNM.out)
        have HI2 : Hid (IsMap (Dm.put (KB x) (.lit (.int .i64 (p : Int))))) := HIM.out.put _ _
        have HN2 : Hid (NotedI (seenS D E (k + 1)) (Dm.put (KB x) (.lit (.int .i64 (p : Int))))) := by
          show NotedI _ _
          rw [HSS.out]
          exact HNO.out.put HIM.out (fun l hl => seenS_mac hl) x p
        clear hown hgrow HVZ HBZ HMZ HOZ HIM HNO
        rw [← HKE.out] at HV2
        generalize Dm.put (KB x) (.lit (.int .i64 (p : Int))) = D2 at HM2 HI2 HN2
        obtain ⟨i0, hi0, hz0, hz1, hz2⟩ := info_parts info_u8
        go_wp2_with (at_builtin; refine wpList_append_elem rfl _ _ 33 rfl w.heap.size 5 i0 _ 1 1 Try.underlying33 hi0 hz0 hz1 hz2 rfl (by decide) v8 k (cells (D.take k)) rfl (ownk_below HO2.out ((Below.refl _ _).alloc (Nat.le_refl _) _) (Nat.le_refl _)) w12.heap.size 1 #[.int .u8 (x.toNat : Int)] 5 (0, 0) rfl (heap_alloc_new w12 _) rfl (fun u hu => by simp at hu; subst hu; rfl) (by unfold maxLen; omega) (by omega) (by have := HB2.out.size; simp; omega) ?_; intro v6 w6 hown6 hgrow6 hblk6; have HOW6 := Lib.hid hown6; have HGW6 := Lib.hid hgrow6; clear hown6 hgrow6 hblk6)
        have hty : ∀ g, v8.ownBlock = some g → ∀ C t fr, (w12.alloc (.cells #[.int .u8 (x.toNat : Int)] 5)).heap[g]? = some (.cells C t fr) → t = 5 := fun g hg C t fr hh => ownk_type (ownk_below HO2.out ((Below.refl _ _).alloc (Nat.le_refl _) (.cells #[.int .u8 (x.toNat : Int)] 5)) (Nat.le_refl _)) hg hh
        have HV6 : Hid (VarB N P (KF (seenS D E (k + 1))) w6) := by
          obtain ⟨s, q1, q2⟩ := HV2.out.below ((Below.refl w12.heap.size w12).alloc (Nat.le_refl _) (.cells #[.int .u8 (x.toNat : Int)] 5))
          exact ⟨s, (HGW6.out.block N (row_lt q1) fun e => absurd (hty N e.symm _ _ _ q1) (by decide)).trans q1, q2.keep fun g C hC => HGW6.out.block g (row_lt hC) fun e => absurd (hty g e.symm _ _ _ hC) (by decide)⟩
        have HM6 : Hid (OwnI M (k + 1) D2 w6) := ownm_grown (ownm_below HM2.out ((Below.refl w12.heap.size w12).alloc (Nat.le_refl _) (.cells #[.int .u8 (x.toNat : Int)] 5))) HGW6.out fun e => by
          obtain ⟨C, hC⟩ := ownk_cells_of (ownk_below HO2.out ((Below.refl _ _).alloc (Nat.le_refl _) (.cells #[.int .u8 (x.toNat : Int)] 5)) (Nat.le_refl _)) e
          exact ownm_cells (ownm_below HM2.out ((Below.refl w12.heap.size w12).alloc (Nat.le_refl _) (.cells #[.int .u8 (x.toNat : Int)] 5))) _ _ _ hC
        have HB6 : Hid (Below w.heap.size w w6) := (HB2.out.alloc HB2.out.size _).grown HGW6.out (by have := HB2.out.size; simp; omega) fun g hg => (HO2.out.lt g hg).1
        have HO6 : Hid (w6.ownsRow w.heap.size 5 1 v6 (k + 1) (cells (D.take (k + 1)))) := by
          show World.ownsRow _ _ _ _ _ _ _
          rw [HTK.out]
          exact HOW6.out
        clear hi0 hz0 hz1 hz2 HOW6 HGW6 hty HV2 HM2 HB2 HO2 HKE HFX HKL
        go_wp2
        go_roundw
        case rel => exact ⟨k + 1, D2, by omega, by go_num, HV6, HM6, HI2, HN2, HO6, HB6⟩
        case measure => simp [intOf]; omega
      · have hp0 : ptOf E k = 0 := by unfold ptOf; rw [dif_neg (by rw [HE.out]; exact hke)]
        rw [hp0] at HSS HPL
        clear hp0
        go_upto_region 14 with (fail)
        clear hcell
        generalize wr = wq at HV HMI HOW HBE ⊢
        obtain ⟨K, hK⟩ : ∃ K, KF (seenS D E k) = K := ⟨_, rfl⟩
        rw [hK] at HV
        have HKL : Hid (K.length ≤ 16) := by rw [← hK]; exact kf_le _
        obtain ⟨L1, hfx⟩ := fw_mc (P := P) (q := 0) K x (by have := HP8.out; have := HPL.out; omega)
        obtain ⟨K1, hK1⟩ : ∃ K1, seeP K (mc x) 0 = K1 := ⟨_, rfl⟩
        rw [hK1] at hfx
        have HFX : Hid (fwX P K 0 (frB c44 (mc x)) = (K1, L1, 0)) := hfx
        have HKE : Hid (KF (seenS D E (k + 1)) = K1) := by show _ = _; rw [HSS.out, kf_snoc, hK]; exact hK1
        clear hK hfx hK1
        obtain ⟨sb, hnx, hks⟩ := HV.out
        have HNX := Lib.hid hnx
        have HKS := Lib.hid hks
        clear hnx hks HV
        apply wp_region_relyV [11, 12] [12] (NewV wq 11 12 12 P K1) (RL [Is (.agg #[.int .i64 (P : Int), sb]), Is (.int .i64 0), Is (.agg (macA c44)), Is (.int .u8 (x.toNat : Int)), Is (.agg (macA (mc x))), OwnL wq.heap.size 14 (frB c44 (mc x)), FwV P K1 L1 0, FwV P K1 L1 0, BrV P K1, IsV L1, Is (.int .i64 0), Any, Any, IsV L1, Is (.int .i64 0)]) [false, false, false, false, false, false, false, false, false, false, false, false, true, true, true, false, false, false, false, false, false, false, false, false, false, false, false, false, false, false, false, false, false, false, false, false, false, false, false, false, false, false, false, false, false, false, false, false, false, false, false, false, false, false, false, false, false, true, true, true, true, true, true, true, true, true, true, true, false, false, false, false, false, false, false, false, false, false, false, false, false, false, false, false, false, false, false, false, false, false, false, false, false, false, false, false, false, false, false, false, false, false, false, false, false, false, false, false, false, false, false, false, false, false, false, false, false, false, false, false, false, false, false, false, false]
        · kernel_rfl
        · kernel_rfl
        · kernel_rfl
        · refine ⟨?_, ?_, ?_, ?_, ?_, ?_, ?_, ?_, ?_, ?_, ?_, ?_, ?_, ?_, ?_, trivial⟩
          · intro L us ev w' hus hC hL hx hnd K hK
            have e5 : ev (.tmp 5) = _ := hx.base 5 (by kernel_rfl)
            have HK := Lib.hid hK
            have HC := Lib.hid hC
            have HL := Lib.hid hL
            have HX := Lib.hid hx
            have HUS := Lib.hid hus
            have HND := Lib.hid hnd
            have hc := hx.cst
            skip
            clear hx hK hC hL hus hnd
            have q1 : ev (.tmp 5) = .pointer (some ⟨N, 0, none⟩) := e5
            have hld := run_loadVar_row (P := Try.prog) w' N 27 27 #[.int .i64 (P : Int), sb] (0, 0) _ ((HC.out.1.block N (row_lt HNX.out)).trans HNX.out) Try.underlying27 rfl (by kernel_rfl)
            unfold Run
            rw [rely_load 27 _ rfl q1 hld]
            exact HK.out _ _ (.inl ⟨Below.refl _ _, by decide⟩) rfl
          · intro L us ev w' hus hC hL hx hnd K hK
            have e11 : ev (.tmp 11) = _ := hx.base 11 (by kernel_rfl)
            have HK := Lib.hid hK
            have HC := Lib.hid hC
            have HL := Lib.hid hL
            have HX := Lib.hid hx
            have HUS := Lib.hid hus
            have HND := Lib.hid hnd
            have hc := hx.cst
            skip
            clear hx hK hC hL hus hnd
            unfold Run
            simp [execOp, Upon, go_sem, *]
            exact HK.out _ _ (.inl ⟨Below.refl _ _, by decide⟩) rfl
          · intro L us ev w' hus hC hL hx hnd K hK
            have HK := Lib.hid hK
            have HC := Lib.hid hC
            have HL := Lib.hid hL
            have HX := Lib.hid hx
            have HUS := Lib.hid hus
            have HND := Lib.hid hnd
            have hc := hx.cst
            skip
            clear hx hK hC hL hus hnd
            unfold Run
            simp [execOp, Upon, go_sem, *]
            exact HK.out _ _ (.inl ⟨Below.refl _ _, by decide⟩) rfl
          · intro L us ev w' hus hC hL hx hnd K hK
            have e10 : ev (.tmp 10) = _ := hx.base 10 (by kernel_rfl)
            have HK := Lib.hid hK
            have HC := Lib.hid hC
            have HL := Lib.hid hL
            have HX := Lib.hid hx
            have HUS := Lib.hid hus
            have HND := Lib.hid hnd
            have hc := hx.cst
            skip
            clear hx hK hC hL hus hnd
            unfold Run
            simp [execOp, Upon, go_sem, *]
            exact HK.out _ _ (.inl ⟨Below.refl _ _, by decide⟩) rfl
          · intro L us ev w' hus hC hL hx hnd K hK
            have e61 := hx.held 3 _ rfl (by kernel_rfl)
            change ev (.tmp 61) = _ at e61
            have HK := Lib.hid hK
            have HC := Lib.hid hC
            have HL := Lib.hid hL
            have HX := Lib.hid hx
            have HUS := Lib.hid hus
            have HND := Lib.hid hnd
            have hc := hx.cst
            skip
            clear hx hK hC hL hus hnd
            unfold Run
            simp [execOp, Upon, go_sem, *]
            exact HK.out _ _ (.inl ⟨Below.refl _ _, by decide⟩) rfl
          · intro L us ev w' hus hC hL hx hnd K hK
            have e60 := hx.held 2 _ rfl (by kernel_rfl)
            have e62 := hx.held 4 _ rfl (by kernel_rfl)
            change ev (.tmp 60) = _ at e60
            change ev (.tmp 62) = _ at e62
            have HK := Lib.hid hK
            have HC := Lib.hid hC
            have HL := Lib.hid hL
            have HX := Lib.hid hx
            have HUS := Lib.hid hus
            have HND := Lib.hid hnd
            have hc := hx.cst
            have hf := hx.fn
            clear hx hK hC hL hus hnd
            have qa : ev (.tmp 60) = .agg (macA c44) := e60
            have qb : ev (.tmp 62) = .agg (macA (mc x)) := e62
            unfold Run
            simp [execOp, Upon, go_sem, *]
            refine (frame_any c44 (mc x) w').mono ?_
            rintro e w2 ⟨A2, c2, rfl, ho, hb⟩
            exact ⟨_, rfl, HK.out _ _ (.inl ⟨hb, by decide⟩) (ownL_of (own_base ho HC.out.1.size) (by decide))⟩
          · intro L us ev w' hus hC hL hx hnd K hK
            have e58 := hx.held 0 _ rfl (by kernel_rfl)
            have e59 := hx.held 1 _ rfl (by kernel_rfl)
            have e63 := hx.held 5 _ rfl (by kernel_rfl)
            change ev (.tmp 58) = _ at e58
            change ev (.tmp 59) = _ at e59
            change (OwnL wq.heap.size 14 (frB c44 (mc x)) : Pred) (ev (.tmp 63)) w' at e63
            have HK := Lib.hid hK
            have HC := Lib.hid hC
            have HL := Lib.hid hL
            have HX := Lib.hid hx
            have HUS := Lib.hid hus
            have HND := Lib.hid hnd
            have hc := hx.cst
            have hf := hx.fn
            clear hx hK hC hL hus hnd
            have qa : ev (.tmp 58) = .agg #[.int .i64 (P : Int), sb] := e58
            have hbr : BrT w' (.agg #[.int .i64 (P : Int), sb]) P _ := ⟨_, rfl, HKS.out.below HC.out.1⟩
            have hf9 := byt_frame e63
            have HBR := Lib.hid hbr
            have HF9 := Lib.hid hf9
            clear hbr hf9 e63
            unfold Run
            simp [execOp, Upon, go_sem, *]
            refine (fw_of HBR.out HKL.out HPP.out HF9.out HFX.out).mono ?_
            rintro e w2 ⟨v2, rfl, ho, hb⟩
            exact ⟨_, rfl, HK.out _ _ (.inl ⟨hb, by decide⟩) ho⟩
          · intro L us ev w' hus hC hL hx hnd K hK
            have e64 := hx.held 6 _ rfl (by kernel_rfl)
            change (FwV P K1 L1 0 : Pred) (ev (.tmp 64)) w' at e64
            have HK := Lib.hid hK
            have HC := Lib.hid hC
            have HL := Lib.hid hL
            have HX := Lib.hid hx
            have HUS := Lib.hid hus
            have HND := Lib.hid hnd
            have hc := hx.cst
            skip
            clear hx hK hC hL hus hnd
            obtain ⟨x1, x2, qx, h1, h2⟩ := e64
            have H1 := Lib.hid h1
            have H2 := Lib.hid h2
            clear h1 h2
            unfold Run
            simp [execOp, Upon, go_sem, *]
            exact HK.out _ _ (.inl ⟨Below.refl _ _, by decide⟩) ⟨x1, x2, rfl, H1.out, H2.out⟩
          · intro L us ev w' hus hC hL hx hnd K hK
            have e57 := hx.held 7 _ rfl (by kernel_rfl)
            change (FwV P K1 L1 0 : Pred) (ev (.tmp 57)) w' at e57
            have HK := Lib.hid hK
            have HC := Lib.hid hC
            have HL := Lib.hid hL
            have HX := Lib.hid hx
            have HUS := Lib.hid hus
            have HND := Lib.hid hnd
            have hc := hx.cst
            skip
            clear hx hK hC hL hus hnd
            obtain ⟨x1, x2, qx, h1, h2⟩ := e57
            have H1 := Lib.hid h1
            have H2 := Lib.hid h2
            clear h1 h2
            unfold Run
            simp [execOp, Upon, go_sem, *]
            exact HK.out _ _ (.inl ⟨Below.refl _ _, by decide⟩) H1.out
          · intro L us ev w' hus hC hL hx hnd K hK
            have e57 := hx.held 7 _ rfl (by kernel_rfl)
            change (FwV P K1 L1 0 : Pred) (ev (.tmp 57)) w' at e57
            have HK := Lib.hid hK
            have HC := Lib.hid hC
            have HL := Lib.hid hL
            have HX := Lib.hid hx
            have HUS := Lib.hid hus
            have HND := Lib.hid hnd
            have hc := hx.cst
            skip
            clear hx hK hC hL hus hnd
            obtain ⟨x1, x2, qx, h1, h2⟩ := e57
            have H1 := Lib.hid h1
            have H2 := Lib.hid h2
            clear h1 h2
            unfold Run
            simp [execOp, Upon, go_sem, *]
            exact HK.out _ _ (.inl ⟨Below.refl _ _, by decide⟩) H2.out
          · intro L us ev w' hus hC hL hx hnd K hK
            have e57 := hx.held 7 _ rfl (by kernel_rfl)
            change (FwV P K1 L1 0 : Pred) (ev (.tmp 57)) w' at e57
            have HK := Lib.hid hK
            have HC := Lib.hid hC
            have HL := Lib.hid hL
            have HX := Lib.hid hx
            have HUS := Lib.hid hus
            have HND := Lib.hid hnd
            have hc := hx.cst
            skip
            clear hx hK hC hL hus hnd
            obtain ⟨x1, x2, qx, h1, h2⟩ := e57
            have H1 := Lib.hid h1
            have H2 := Lib.hid h2
            clear h1 h2
            unfold Run
            simp [execOp, Upon, go_sem, *]
            exact HK.out _ _ (.inl ⟨Below.refl _ _, by decide⟩) rfl
          · intro L us ev w' hus hC hL hx hnd K hK
            have HK := Lib.hid hK
            have HC := Lib.hid hC
            have HL := Lib.hid hL
            have HX := Lib.hid hx
            have HUS := Lib.hid hus
            have HND := Lib.hid hnd
            have hc := hx.cst
            skip
            clear hx hK hC hL hus hnd
            have nst : L 12 = false := Bool.eq_false_iff.2 fun h => by have := HX.out.closed 12 _ 11 rfl h (by kernel_rfl); rw [HL.out] at this; cases this
            unfold Run
            simp [execOp, Upon, go_sem]
            exact HK.out _ _ (.inr ⟨HC.out.alloc nst (by decide), fun j hj hlj u hr => rl_mono (Rs := [Is (.agg #[.int .i64 (P : Int), sb]), Is (.int .i64 0), Is (.agg (macA c44)), Is (.int .u8 (x.toNat : Int)), Is (.agg (macA (mc x))), OwnL wq.heap.size 14 (frB c44 (mc x)), FwV P K1 L1 0, FwV P K1 L1 0, BrV P K1, IsV L1, Is (.int .i64 0), Any, Any, IsV L1, Is (.int .i64 0)]) ⟨is_mono _, is_mono _, is_mono _, is_mono _, is_mono _, ownL_mono _ _ _, fwV_mono _ _ _ _, fwV_mono _ _ _ _, brV_mono _ _, isV_mono _, is_mono _, any_mono, any_mono, isV_mono _, is_mono _, trivial⟩ j u _ _ ((Below.refl _ _).alloc (Nat.le_refl _) _) hr⟩) trivial
          · intro L us ev w' hus hC hL hx hnd K hK
            have e12 := hx.held 11 _ rfl (by kernel_rfl)
            have e65 := hx.held 8 _ rfl (by kernel_rfl)
            change (Any : Pred) (ev (.tmp 12)) w' at e12
            change (BrV P K1 : Pred) (ev (.tmp 65)) w' at e65
            have HK := Lib.hid hK
            have HC := Lib.hid hC
            have HL := Lib.hid hL
            have HX := Lib.hid hx
            have HUS := Lib.hid hus
            have HND := Lib.hid hnd
            have hc := hx.cst
            skip
            clear hx hK hC hL hus hnd
            have hbr : BrT w' (ev (.tmp 65)) P K1 := e65
            obtain ⟨Ax, nx, cx, qv⟩ := hbr.form
            rw [qv] at hbr
            have nst : L 12 = false := HL.out
            have lal : L 11 = true := HND.out 11 (by kernel_rfl)
            obtain ⟨g, hg, -⟩ := HC.out.2 lal
            have qp : ev (.tmp 12) = .pointer (some ⟨g, 0, none⟩) := (HUS.out 12).trans hg
            obtain ⟨hgh, hnv⟩ := HC.out.store (v := undef) lal nst hg hbr (by decide)
            have hst := run_storeVar_row (P := Try.prog) w' g 27 27 B2 #[.int .i64 (P : Int), .slice Ax nx cx] hgh (by kernel_rfl) rfl (B2_ones _ _ _ _)
            unfold Run
            rw [rely_store 27 _ _ rfl qp qv hst]
            refine HK.out _ _ (.inr ⟨hnv.agree rfl rfl rfl, fun j hj hlj u hr => ?_⟩) trivial
            rcases j with _ | _ | _ | _ | _ | _ | _ | _ | _ | _ | _ | _ | _ | _ | _ | j
            · exact hr
            · exact hr
            · exact hr
            · exact hr
            · exact hr
            · exact ow_set hr hgh _
            · exact fw_set hr hgh _
            · exact fw_set hr hgh _
            · exact br_set hr hgh _
            · exact is_set hr hgh _
            · exact hr
            · exact trivial
            · exact absurd rfl hj
            · exact is_set hr hgh _
            · exact hr
            · exact trivial
          · intro L us ev w' hus hC hL hx hnd K hK
            have e66 := hx.held 9 _ rfl (by kernel_rfl)
            change (IsV L1 : Pred) (ev (.tmp 66)) w' at e66
            have HK := Lib.hid hK
            have HC := Lib.hid hC
            have HL := Lib.hid hL
            have HX := Lib.hid hx
            have HUS := Lib.hid hus
            have HND := Lib.hid hnd
            have hc := hx.cst
            skip
            clear hx hK hC hL hus hnd
            have h1 : IsT w' (ev (.tmp 66)) L1 := e66
            obtain ⟨Ax, cx, qx⟩ := h1.form
            rw [qx] at h1
            have H1 := Lib.hid h1
            clear h1 e66
            unfold Run
            simp [execOp, Upon, go_sem, *]
            exact HK.out _ _ (.inl ⟨Below.refl _ _, by decide⟩) H1.out
          · intro L us ev w' hus hC hL hx hnd K hK
            have e67 := hx.held 10 _ rfl (by kernel_rfl)
            change ev (.tmp 67) = _ at e67
            have HK := Lib.hid hK
            have HC := Lib.hid hC
            have HL := Lib.hid hL
            have HX := Lib.hid hx
            have HUS := Lib.hid hus
            have HND := Lib.hid hnd
            have hc := hx.cst
            skip
            clear hx hK hC hL hus hnd
            unfold Run
            simp [execOp, Upon, go_sem, *]
            exact HK.out _ _ (.inl ⟨Below.refl _ _, by decide⟩) rfl
        · exact rl_mono ⟨is_mono _, is_mono _, is_mono _, is_mono _, is_mono _, ownL_mono _ _ _, fwV_mono _ _ _ _, fwV_mono _ _ _ _, brV_mono _ _, isV_mono _, is_mono _, any_mono, any_mono, isV_mono _, is_mono _, trivial⟩
        · exact fun L L' us us' w' h1 h2 hg => hg.agree (h1 11 (by simp)) (h1 12 (by simp)) (h2 12 (by simp))
        · exact fun L us w' w'' hb hg => hg.below hb
        · kernel_rfl
        · exact ⟨Below.refl _ _, fun h => (by cases h)⟩
        · simp
        intro us wr hG hH
        obtain ⟨-, -, -, -, -, -, -, -, -, -, -, -, -, h13, h14, -⟩ := hH
        simp only [fillM]
        obtain ⟨hB9, hN9⟩ := hG
        obtain ⟨gn, hgn, hgb, -, hvn⟩ := hN9 rfl
        rw [hgn]
        have HVN := Lib.hid (hvn rfl)
        have HGB := Lib.hid hgb
        have HB9 := Lib.hid hB9
        clear hB9 hN9 hgb hvn
        change (IsV L1 : Pred) (us 13) wr at h13
        change us 14 = _ at h14
        rw [h14]
        clear h14
        generalize us 58 = v58
        generalize us 59 = v59
        generalize us 60 = v60
        generalize us 61 = v61
        generalize us 62 = v62
        generalize us 63 = v63
        generalize us 64 = v64
        generalize us 57 = v57
        generalize us 65 = v65
        generalize us 66 = v66
        generalize us 67 = v67
        generalize us 13 = v13 at h13 ⊢
        clear hgn
        have HI9 := Lib.hid h13
        clear h13
        have HNX9 := Lib.hid ((HB9.out.block N (row_lt HNX.out)).trans HNX.out)
        have HNG : Hid (¬ N = gn) := fun e => by have := row_lt HNX.out; have := HGB.out; omega
        obtain ⟨s1, hg1, hk1⟩ := HVN.out
        obtain ⟨Az, cz, rfl, -⟩ := id hk1
        have HG1 := Lib.hid hg1
        have HVZ : Hid (VarB N P K1 (wr.setRow N #[.int .i64 (P : Int), .slice Az K1.length cz])) := ⟨_, setRow_heap _ _ _ _ _ _ HNX9.out, hk1.setRow HNX9.out (by decide) _⟩
        have HBZ : Hid (Below w.heap.size w (wr.setRow N #[.int .i64 (P : Int), .slice Az K1.length cz])) := below_setRow (HBE.out.trans (HB9.out.mono HBE.out.size)) HNW.out _
        have HMZ : Hid (OwnI M k Dm (wr.setRow N #[.int .i64 (P : Int), .slice Az K1.length cz])) := ownm_set (ownm_below HMI.out HB9.out) HNX9.out #[.int .i64 (P : Int), .slice Az K1.length cz] rfl
        have HOZ : Hid ((wr.setRow N #[.int .i64 (P : Int), .slice Az K1.length cz]).ownsRow w.heap.size 5 1 v8 k (cells (D.take k))) := ownk_other (ownk_below HOW.out HB9.out (Nat.le_refl _)) HNX9.out (by decide) fun j hj => setRow_other _ _ _ _ hj
        clear hg1 hk1 HVN HGB HB9 HNX HKS HI9 HMI HOW HBE
        go_upto_region 16 with (first | refine wpList_load_row rfl 27 _ rfl gn rfl 27 #[.int .i64 (P : Int), .slice Az K1.length cz] (0, 0) _ HG1.out Try.underlying27 rfl (by kernel_rfl) ?_ | refine wpList_store_row rfl 27 _ _ rfl N #[.int .i64 (P : Int), .slice Az K1.length cz] rfl rfl 27 _ HNX9.out (by kernel_rfl) rfl (B2_ones _ _ _ _) ?_)
        generalize wr.setRow N #[.int .i64 (P : Int), .slice Az K1.length cz] = wz at HVZ HBZ HMZ HOZ ⊢
        clear HG1 HNX9 HNG
        have HWF : Hid ((Lit.int .i64 0).wf = true) := int_wf (a := 0) (by have := HPL.out; omega)
        go_upto_region 19 with (first | (at_mapUpdate; refine wpList_mapUpdate_own _ rfl _ _ _ 53 rfl 5 3 bytelaw Try.underlying53 _ M k _ rfl HMZ.out (by unfold maxLen; omega) _ _ _ rfl rfl (key_byte x) _ [] (plainElem_int Try.underlying3 HWF.out) ?_; intro w12 hown hgrow) | go_in)
        go_frame
        have HM2 : Hid (OwnI M (k + 1) (Dm.put (KB x) (.lit (.int .i64 0))) w12) := hown
        have HV2 := Lib.hid (HVZ.out.turn (ownm_cells HMZ.out) hgrow)
        have HO2 := Lib.hid (ownk_turn HOZ.out (ownm_cells HMZ.out) hgrow)
        have HB2 := Lib.hid (HBZ.out.grown hgrow HBZ.out.size fun g hg => by cases hg; exact HNM.out)
        have HI2 : Hid (IsMap (Dm.put (KB x) (.lit (.int .i64 0)))) := HIM.out.put _ _
        have HN2 : Hid (NotedI (seenS D E (k + 1)) (Dm.put (KB x) (.lit (.int .i64 0)))) := by
          show NotedI _ _
          rw [HSS.out]
          exact HNO.out.put HIM.out (fun l hl => seenS_mac hl) x 0
        clear hown hgrow HVZ HBZ HMZ HOZ HIM HNO
        rw [← HKE.out] at HV2
        generalize Dm.put (KB x) (.lit (.int .i64 0)) = D2 at HM2 HI2 HN2
        obtain ⟨i0, hi0, hz0, hz1, hz2⟩ := info_parts info_u8
        go_wp2_with (at_builtin; refine wpList_append_elem rfl _ _ 33 rfl w.heap.size 5 i0 _ 1 1 Try.underlying33 hi0 hz0 hz1 hz2 rfl (by decide) v8 k (cells (D.take k)) rfl (ownk_below HO2.out ((Below.refl _ _).alloc (Nat.le_refl _) _) (Nat.le_refl _)) w12.heap.size 1 #[.int .u8 (x.toNat : Int)] 5 (0, 0) rfl (heap_alloc_new w12 _) rfl (fun u hu => by simp at hu; subst hu; rfl) (by unfold maxLen; omega) (by omega) (by have := HB2.out.size; simp; omega) ?_; intro v6 w6 hown6 hgrow6 hblk6; have HOW6 := Lib.hid hown6; have HGW6 := Lib.hid hgrow6; clear hown6 hgrow6 hblk6)
        have hty : ∀ g, v8.ownBlock = some g → ∀ C t fr, (w12.alloc (.cells #[.int .u8 (x.toNat : Int)] 5)).heap[g]? = some (.cells C t fr) → t = 5 := fun g hg C t fr hh => ownk_type (ownk_below HO2.out ((Below.refl _ _).alloc (Nat.le_refl _) (.cells #[.int .u8 (x.toNat : Int)] 5)) (Nat.le_refl _)) hg hh
        have HV6 : Hid (VarB N P (KF (seenS D E (k + 1))) w6) := by
          obtain ⟨s, q1, q2⟩ := HV2.out.below ((Below.refl w12.heap.size w12).alloc (Nat.le_refl _) (.cells #[.int .u8 (x.toNat : Int)] 5))
          exact ⟨s, (HGW6.out.block N (row_lt q1) fun e => absurd (hty N e.symm _ _ _ q1) (by decide)).trans q1, q2.keep fun g C hC => HGW6.out.block g (row_lt hC) fun e => absurd (hty g e.symm _ _ _ hC) (by decide)⟩
        have HM6 : Hid (OwnI M (k + 1) D2 w6) := ownm_grown (ownm_below HM2.out ((Below.refl w12.heap.size w12).alloc (Nat.le_refl _) (.cells #[.int .u8 (x.toNat : Int)] 5))) HGW6.out fun e => by
          obtain ⟨C, hC⟩ := ownk_cells_of (ownk_below HO2.out ((Below.refl _ _).alloc (Nat.le_refl _) (.cells #[.int .u8 (x.toNat : Int)] 5)) (Nat.le_refl _)) e
          exact ownm_cells (ownm_below HM2.out ((Below.refl w12.heap.size w12).alloc (Nat.le_refl _) (.cells #[.int .u8 (x.toNat : Int)] 5))) _ _ _ hC
        have HB6 : Hid (Below w.heap.size w w6) := (HB2.out.alloc HB2.out.size _).grown HGW6.out (by have := HB2.out.size; simp; omega) fun g hg => (HO2.out.lt g hg).1
        have HO6 : Hid (w6.ownsRow w.heap.size 5 1 v6 (k + 1) (cells (D.take (k + 1)))) := by
          show World.ownsRow _ _ _ _ _ _ _
          rw [HTK.out]
          exact HOW6.out
        clear hi0 hz0 hz1 hz2 HOW6 HGW6 hty HV2 HM2 HB2 HO2 HKE HFX HKL
        go_wp2
        go_roundw
        case rel => exact ⟨k + 1, D2, by omega, by go_num, HV6, HM6, HI2, HN2, HO6, HB6⟩
        case measure => simp [intOf]; omega
    · obtain rfl : k = n := by omega
      have hDn := HD.out
      have HOW2 : Hid (wr.ownsRow w.heap.size 5 1 v8 k (cells D)) := by
        have := HOW.out
        rwa [List.take_of_length_le (Nat.le_of_eq hDn)] at this
      have HDL := HD
      obtain ⟨S, hS⟩ : ∃ S, seenS D E k = S := ⟨_, rfl⟩
      have HSE := Lib.hid hS
      rw [hS] at HV HNO
      clear hS hDn HOW hk hlt
      obtain ⟨Ao, co, rfl, -, hco, -⟩ := ownk_form HOW2.out
      have hco2 : co ≤ 9223372036854775807 := by unfold maxLen at hco; omega
      clear hco
      have hmm := @run_makeMap Try.prog
      generalize wr = wa at HV HMI HOW2 HBE ⊢
      have HVB := Lib.hid (HV.out.below ((Below.refl wa.heap.size wa).alloc (Nat.le_refl _) (.map #[] 0)))
      have HIB := Lib.hid (ownm_below HMI.out ((Below.refl wa.heap.size wa).alloc (Nat.le_refl _) (.map #[] 0)))
      have HTB : Hid (OwnT wa.heap.size 0 (.map []) (wa.alloc (.map #[] 0))) := World.ownsMap_made _ _ _ _
      have HOB := Lib.hid (ownk_below HOW2.out ((Below.refl wa.heap.size wa).alloc (Nat.le_refl _) (.map #[] 0)) (Nat.le_refl _))
      have HBB : Hid (Below w.heap.size w (wa.alloc (.map #[] 0))) := HBE.out.alloc HBE.out.size _
      have HNT : Hid (w.heap.size ≤ wa.heap.size) := HBE.out.size
      have HMT : Hid (M < wa.heap.size) := World.ownsMap.lt HMI.out
      go_upto_region 22 with (fail)
      generalize wa.alloc (.map #[] 0) = wb at HVB HIB HTB HOB HBB ⊢
      generalize wa.heap.size = T at HTB HNT HMT ⊢
      clear HV HMI HOW2 HBE hmm
      go_wp2
      go_loopw [16] (fun t16 wr => ∃ (j : Nat) (Dt : DataW Unit), j ≤ k ∧ t16 = .int .i64 ((k : Int) - 1 - (j : Int)) ∧ Hid (VarB N P (KF S) wr) ∧ Hid (OwnI M k Dm wr) ∧ Hid (OwnT T j Dt wr) ∧ Hid (AskedT (S.reverse.take j) Dt) ∧ Hid (wr.ownsRow w.heap.size 5 1 (.slice Ao k co) k (cells D)) ∧ Hid (Below w.heap.size w wr)) (fun t16 _ => (intOf t16 + 1).toNat)
      case atStart => exact ⟨0, .map [], Nat.zero_le _, by simp, HVB, HIB, HTB, (by exact asked_start), HOB, HBB⟩
      case round =>
        obtain ⟨j, Dt, hj, rfl, HV, HMI, HMT2, HAS, HOW, HBE⟩ := hrel
        clear HVB HIB HTB HOB HBB
        by_cases hlt : j < k
        · obtain ⟨i, hi⟩ : ∃ i, i + (j + 1) = k := ⟨k - (j + 1), by omega⟩
          have hgi : (k : Int) - 1 - (j : Int) = (i : Int) := by omega
          have hi0 : (0 : Int) ≤ (i : Int) := by omega
          have hik : (i : Int) < (k : Int) := by omega
          have hik2 : i < k := by omega
          obtain ⟨x, hx⟩ : ∃ x, D[i]? = some x := ⟨_, List.getElem?_eq_getElem (by rw [HDL.out]; exact hik2)⟩
          obtain ⟨g, cg, cur, hv, -, -, -, -, -, -⟩ := ownk_some HOW.out (by omega)
          injection hv with hv1 _ hv3
          subst hv1 hv3
          have hcx : (cells D)[i]? = some (.int .u8 (x.toNat : Int)) := by simp [cells, hx]
          have hcell := own_cell HOW.out hcx
          have hSD : seenS D E D.length = S := by rw [HDL.out]; exact HSE.out
          have hback := seenS_back D E j i x hx (by rw [HDL.out]; exact hi)
          have htake := rev_take_succ D E j i x hx (by rw [HDL.out]; exact hi)
          rw [hSD] at hback htake
          obtain ⟨p, hp⟩ : ∃ p, ptOf E i = p := ⟨_, rfl⟩
          rw [hp] at hback htake
          have HBK := Lib.hid hback
          have HTK2 := Lib.hid htake
          obtain ⟨v, ps, hrun, hval⟩ := World.ownsMap.lookup HMT2.out bytelaw Try.underlying54 (zero_bit wr) (plainElem_bool Try.underlying4 false) (key_byte x)
          rw [hgi]
          clear hx hcx hSD hback htake hp hgi
          cases hh : has Dt (KB x) with
          | true =>
            rw [HAS.out.val x hh] at hval
            have hvb := plainElem_bool_inv hval
            subst hvb
            have HAS2 : Hid (AskedT (S.reverse.take (j + 1)) Dt) := by
              show AskedT _ _
              rw [HTK2.out]
              exact HAS.out.old ((HAS.out.has_ x).1 hh) p
            have HMT3 : Hid (OwnT T (j + 1) Dt wr) := ownm_more HMT2.out (by omega)
            have hgi2 : (i : Int) - 1 = (k : Int) - 1 - ((j + 1 : Nat) : Int) := by omega
            clear hval hh HAS HMT2
            go_wp2
            go_roundw
            case rel => exact ⟨j + 1, Dt, by omega, by rw [← hgi2]; go_num, HV, HMI, HMT3, HAS2, HOW, HBE⟩
            case measure => simp [intOf]; omega
          | false =>
            have hno : ∀ y ∈ S.reverse.take j, y.m ≠ mc x := fun y hy e => by
              have := (HAS.out.has_ x).2 ⟨y, hy, e⟩
              rw [hh] at this
              cases this
            rw [atKey_of_not_has hh] at hval
            have hvb := plainElem_bool_inv hval
            subst hvb
            have HAS2 : Hid (AskedT (S.reverse.take (j + 1)) (Dt.put (KB x) (.lit (.bool true)))) := by
              show AskedT _ _
              rw [HTK2.out]
              exact HAS.out.put hno p
            obtain ⟨q, hq⟩ : ∃ q, (ddf (S.reverse.take j)).length = q := ⟨_, rfl⟩
            have hfn := find_new HBK.out hno
            rw [hq] at hfn
            have HFN : Hid (findX (KF S) (mc x) = (if q < 16 then p else 0, decide (q < 16))) := hfn
            have HSZ : Hid (Maps.size Dt = q) := HAS.out.size_.trans hq
            have hin : (⟨mc x, p⟩ : Ln) ∈ ddf S.reverse := by
              obtain ⟨r, hr⟩ := ddf_new (B := S.reverse.drop (j + 1)) (x := ⟨mc x, p⟩) hno
              rw [HBK.out, hr]
              exact List.mem_append_right _ (List.mem_cons_self ..)
            have HAT : Hid (∀ zd, Dm.atKey (KB x) zd = .lit (.int .i64 (p : Int))) := HNO.out _ hin
            clear hval hh hno hq hfn hin HAS
            obtain ⟨sb, hnx, hks⟩ := HV.out
            obtain ⟨Ab, cb, rfl, -⟩ := id hks
            have HNX := Lib.hid hnx
            have HFI := Lib.hid (find_any (.agg #[.int .i64 (P : Int), .slice Ab (KF S).length cb]) P (KF S) (mc x) wr ⟨_, rfl, hks⟩ (Nat.le_trans (kf_le S) (by decide)))
            rw [HFN.out] at HFI
            clear hnx hks HFN
            go_wp2_with (first | refine wpList_load_row rfl 27 _ rfl N rfl 27 #[.int .i64 (P : Int), .slice Ab (KF S).length cb] (0, 0) _ HNX.out Try.underlying27 rfl (by kernel_rfl) ?_)
            refine HFI.out.mono ?_
            rintro e w5 ⟨rfl, hb5⟩
            have HV5 := Lib.hid (HV.out.below hb5)
            have HMI5 := Lib.hid (ownm_below HMI.out hb5)
            have HMT5 := Lib.hid (ownm_below HMT2.out hb5)
            have HOW5 := Lib.hid (ownk_below HOW.out hb5 (Nat.le_refl _))
            have HB5 := Lib.hid (HBE.out.trans (hb5.mono HBE.out.size))
            have hlen := World.ownsMap.len HMT5.out Try.underlying54 3
            rw [HSZ.out] at hlen
            obtain ⟨pc, hrun2, hat2, -⟩ := World.ownsMap.lookup_int HMI5.out bytelaw Try.underlying53 Try.underlying3 (zero_int w5) (key_byte x)
            rw [HAT.out] at hat2
            injection hat2 with hat2
            injection hat2 with _ hat2
            subst hat2
            clear hb5 hrun hcell HFI HV HMI HMT2 HOW HBE HAT HSZ
            have hcase : (q < 16) ∨ ¬ (q < 16) := by omega
            rcases hcase with hq | hq
            · have hq2 : (q : Int) < 16 := by omega
              rw [if_pos hq, decide_eq_true hq]
              go_upto_region 24 with (first | (at_mapUpdate; refine wpList_mapUpdate_own _ rfl _ _ _ 54 rfl 5 4 bytelaw Try.underlying54 _ T j _ rfl HMT5.out (by unfold maxLen; omega) _ _ _ rfl rfl (key_byte x) _ [] (plainElem_bool Try.underlying4 true) ?_; intro w12 hown hgrow) | go_in)
              go_frame
              have HMT6 : Hid (OwnT T (j + 1) (Dt.put (KB x) (.lit (.bool true))) w12) := hown
              have HV6 := Lib.hid (HV5.out.turn (ownm_cells HMT5.out) hgrow)
              have HO6 := Lib.hid (ownk_turn HOW5.out (ownm_cells HMT5.out) hgrow)
              have HI6 : Hid (OwnI M k Dm w12) := ownm_grown HMI5.out hgrow (fun e => by injection e with e; have := HMT.out; omega)
              have HB6 := Lib.hid (HB5.out.grown hgrow HB5.out.size fun g hg => by cases hg; exact HNT.out)
              have hgi2 : (i : Int) - 1 = (k : Int) - 1 - ((j + 1 : Nat) : Int) := by omega
              clear hown hgrow HV5 HOW5 HMI5 HB5 HMT5 hlen hrun2
              go_wp2
              go_roundw
              case rel => exact ⟨j + 1, _, by omega, by rw [← hgi2]; go_num, HV6, HI6, HMT6, HAS2, HO6, HB6⟩
              case measure => simp [intOf]; omega
            · have hq2 : ¬ (q : Int) < 16 := by omega
              rw [if_neg hq, decide_eq_false hq]
              go_upto_region 24 with (first | (at_mapUpdate; refine wpList_mapUpdate_own _ rfl _ _ _ 54 rfl 5 4 bytelaw Try.underlying54 _ T j _ rfl HMT5.out (by unfold maxLen; omega) _ _ _ rfl rfl (key_byte x) _ [] (plainElem_bool Try.underlying4 true) ?_; intro w12 hown hgrow) | go_in)
              go_frame
              have HMT6 : Hid (OwnT T (j + 1) (Dt.put (KB x) (.lit (.bool true))) w12) := hown
              have HV6 := Lib.hid (HV5.out.turn (ownm_cells HMT5.out) hgrow)
              have HO6 := Lib.hid (ownk_turn HOW5.out (ownm_cells HMT5.out) hgrow)
              have HI6 : Hid (OwnI M k Dm w12) := ownm_grown HMI5.out hgrow (fun e => by injection e with e; have := HMT.out; omega)
              have HB6 := Lib.hid (HB5.out.grown hgrow HB5.out.size fun g hg => by cases hg; exact HNT.out)
              have hgi2 : (i : Int) - 1 = (k : Int) - 1 - ((j + 1 : Nat) : Int) := by omega
              clear hown hgrow HV5 HOW5 HMI5 HB5 HMT5 hlen hrun2
              go_wp2
              go_roundw
              case rel => exact ⟨j + 1, _, by omega, by rw [← hgi2]; go_num, HV6, HI6, HMT6, HAS2, HO6, HB6⟩
              case measure => simp [intOf]; omega
        · obtain rfl : j = k := by omega
          obtain ⟨sb, hnx, hks⟩ := HV.out
          obtain ⟨Ab, cb, rfl, -⟩ := id hks
          have hlen := World.ownsMap.len HMT2.out Try.underlying54 3
          obtain ⟨q, hq⟩ : ∃ q, (ddf S.reverse).length = q := ⟨_, rfl⟩
          have hSL : S.reverse.length = j := by rw [List.length_reverse, ← HSE.out]; exact seenS_len D E j (Nat.le_of_eq HDL.out.symm)
          have hsz : Maps.size Dt = q := by
            rw [HAS.out.size_, List.take_of_length_le (Nat.le_of_eq hSL)]
            exact hq
          rw [hsz] at hlen
          have hkl := kf_len S
          rw [hq] at hkl
          obtain ⟨a0, a1⟩ := two_cells hnx
          have hneg : ¬ (0 : Int) ≤ (j : Int) - 1 - (j : Int) := by omega
          clear hnx hks hq hSL hsz HAS
          rcases (show q < 16 ∨ q = 16 ∨ 16 < q by omega) with hq | hq | hq
          · rw [show min 16 q = q by omega] at hkl
            rw [hkl] at a1
            go_wp2
            go_ret
            exact ⟨rfl, HBE.out⟩
          · subst hq
            rw [show min 16 16 = 16 from rfl] at hkl
            rw [hkl] at a1
            go_wp2
            go_ret
            exact ⟨rfl, HBE.out⟩
          · rw [show min 16 q = 16 by omega] at hkl
            rw [hkl] at a1
            go_wp2
            go_ret
            exact ⟨rfl, HBE.out⟩
end Go.Proofs.Ytecbelnmdimnkaa
