/-
  The law RecvqPlays: every number, every slice of ops.
-/
import Derived.Test.YtdgfhcojmfgimaaRlv
import Derived.Test.YtdgfhcojmfgimaaRfe
namespace Go.Proofs.Ytdgfhcojmfgimaa
open Go.RowKit

set_option maxRecDepth 100000 in
set_option maxHeartbeats 40000000 in
theorem plays_any (n : Int) (v : Value) (l : List Op17) (w : World) (hn : U32 n) (hv : Rv w (Lt w.heap.size) v (rowsD 4 op17D l)) (hO : ∀ o ∈ l, ok17 o) (hl : l.length ≤ 140737488351232) :
    Calls Try.prog 3 #[.int .u32 n, v] w fun e w' => e = .returned (.bool true) ∧ Below w.heap.size w w' := by
  have HRV := Lib.hid hv
  have HNN := Lib.hid hn
  have HO := Lib.hid hO
  obtain ⟨A, c, rfl, hnc, hcm, hel⟩ := op_at hv
  have HEL := Lib.hid hel
  obtain ⟨m, hm⟩ : ∃ m, l.length = m := ⟨_, rfl⟩
  rw [hm] at HRV hnc hl ⊢
  have HM := Lib.hid hm
  have hcm2 : c ≤ 9223372036854775807 := by unfold maxLen at hcm; omega
  clear hm hcm hn hO hv hel
  go_enter Try.func3, Try.ntmps3
  go_wp2_with fail
  refine (lives_any _).mono ?_
  rintro e w1 ⟨rfl, hb1⟩
  have HB1 := Lib.hid hb1
  have HRV1 : Hid (Rv w1 (Lt w1.heap.size) (.slice A m c) (rowsD 4 op17D l)) := (HRV.out.kept hb1 (fun _ h => h)).wide fun b hb => Nat.lt_of_lt_of_le hb hb1.size
  have HFT := Lib.hid (fits_any _ l w1 HRV1.out HO.out (by rw [HM.out]; exact hl))
  obtain ⟨ft, hft⟩ : ∃ ft, fitsX l = ft := ⟨_, rfl⟩
  have HFX := Lib.hid hft
  rw [hft] at HFT
  clear hb1 hft
  go_wp2_with fail
  refine HFT.out.mono ?_
  rintro e w2 ⟨rfl, hb2⟩
  have HB2 := Lib.hid (HB1.out.trans (hb2.mono HB1.out.size))
  clear hb2 HFT HRV1
  cases ft
  · go_wp2_with fail
    refine (lives_any _).mono ?_
    rintro e w3 ⟨rfl, hb3⟩
    have HB3 := Lib.hid (HB2.out.trans (hb3.mono HB2.out.size))
    clear hb3
    go_wp2
    go_ret
    exact ⟨rfl, HB3.out⟩
  have h60 := (fits_iff.1 HFX.out).2
  have HF4 := Lib.hid (fits_iff.1 HFX.out).1
  rw [HM.out] at h60
  have HOK0 := Lib.hid (new_ok HNN.out)
  obtain ⟨X0, hX0⟩ : ∃ X0, newX n = X0 := ⟨_, rfl⟩
  have HX0 := Lib.hid hX0
  rw [hX0] at HOK0
  clear hX0
  go_wp2_with fail
  refine (new_any n _ HNN.out).mono ?_
  rintro e w3 ⟨cs1, rfl, hr, hb⟩
  rw [HX0.out] at hr
  obtain ⟨vD, vA, rfl, h1⟩ := rq_of hr
  have HA1 := Lib.hid h1
  have F1 := Lib.hid ((Frm.start HB2.out).new hb hr)
  clear hr hb h1
  go_wp2_with fail
  refine (refnew_any n _).mono ?_
  rintro e w4 ⟨cs2, rfl, hr, hb⟩
  rw [HX0.out] at hr
  obtain ⟨vx, rfl, h1⟩ := rx_of hr
  have HR1 := Lib.hid h1
  have F2 := Lib.hid (F1.out.new hb hr)
  clear hr hb h1 F1
  have F3 := Lib.hid ((F2.out.alloc #[.int .u32 0, .slice none 0 0, .slice none 0 0, .bool false, .int .u32 0, .bool false] 29).alloc #[.int .u32 0, .string ⟨#[]⟩, .slice none 0 0, .int .i64 0, .bool false] 33)
  rw [show (w4.alloc (.cells #[.int .u32 0, .slice none 0 0, .slice none 0 0, .bool false, .int .u32 0, .bool false] 29)).heap.size = w4.heap.size + 1 from by simp] at F3
  have F4 := Lib.hid (F3.out.put (i := 1) rfl (rqC (conc X0) vD vA))
  go_upto_region 4 with (first | (refine wpList_store_row rfl 29 _ _ rfl w4.heap.size (rqC (conc X0) vD vA) rfl rfl 29 #[.int .u32 0, .slice none 0 0, .slice none 0 0, .bool false, .int .u32 0, .bool false] (F3.out.at (i := 1) rfl) (by kernel_rfl) rfl HA1.out ?_) | (refine wpList_store_row rfl 33 _ _ rfl (w4.heap.size + 1) (rxC X0 vx) rfl rfl 33 #[.int .u32 0, .string ⟨#[]⟩, .slice none 0 0, .int .i64 0, .bool false] (F4.out.at (i := 0) rfl) (by kernel_rfl) rfl HR1.out ?_) | go_in)
  have F5 := Lib.hid (F4.out.put (i := 0) rfl (rxC X0 vx))
  generalize (((w4.alloc (.cells #[.int .u32 0, .slice none 0 0, .slice none 0 0, .bool false, .int .u32 0, .bool false] 29)).alloc (.cells #[.int .u32 0, .string ⟨#[]⟩, .slice none 0 0, .int .i64 0, .bool false] 33)).setRow w4.heap.size (rqC (conc X0) vD vA)).setRow (w4.heap.size + 1) (rxC X0 vx) = w5 at F5 ⊢
  obtain ⟨g1, hg1⟩ : ∃ g1, w4.heap.size = g1 := ⟨_, rfl⟩
  rw [hg1] at F5 ⊢
  obtain ⟨g2, hg2⟩ : ∃ g2, g1 + 1 = g2 := ⟨_, rfl⟩
  rw [hg2] at F5 ⊢
  have F6 : Hid (Frm w w5 [(g2, (rxC X0 vx), 33), (g1, (rqC (conc X0) vD vA), 29)] [((rxC X0 vx).toList, rxD X0), ((rqC (conc X0) vD vA).toList, rqD (conc X0))]) := F5
  clear F2 F3 F4 F5 hg1 hg2 HA1 HR1 HX0 HB1 HB2
  go_wp2
  go_loopw [30] (fun t30 wr => ∃ (i : Nat) (x : Rx) (a b u : Value), i ≤ m ∧ t30 = .int .i64 (i : Int) ∧ Hid (OkX x) ∧ Hid (Frm w wr [(g2, (rxC x u), 33), (g1, (rqC (conc x) a b), 29)] [((rxC x u).toList, rxD x), ((rqC (conc x) a b).toList, rqD (conc x))])) (fun t30 _ => m - (intOf t30).toNat)
  case atStart => exact ⟨0, X0, vD, vA, vx, Nat.zero_le _, rfl, HOK0, F6⟩
  case round =>
    clear F6 HOK0
    obtain ⟨i, x, vD, vA, vx, hi, rfl, HOX, F1⟩ := hrel
    by_cases hlt : i < m
    · obtain ⟨o, ho⟩ : ∃ o, l[i]? = some o := ⟨_, List.getElem?_eq_getElem (by rw [HM.out]; exact hlt)⟩
      have HMO := Lib.hid (List.mem_of_getElem? ho)
      obtain ⟨ad, B, eb, rfl, hrb, hcl⟩ := HEL.out i o ho
      obtain ⟨ho1, -, ho3⟩ := HO.out o HMO.out
      have hk4 := HF4.out o HMO.out
      obtain ⟨off, D, fe, rd⟩ := o
      dsimp only at hrb hcl ho1 ho3 hk4
      obtain ⟨k, hk⟩ : ∃ k, D.length = k := ⟨_, rfl⟩
      have HDK := Lib.hid hk
      rw [hk] at hrb hcl hk4
      have HKC : Hid (∀ (j : Nat) u, (#[.int .i64 off, .slice B k eb, .bool fe, .int .i64 rd] : Array Value)[j]? = some u → wr.cell? ((ad.add (i * 4)).add j) = some u) := fun j u hj => (F1.out.below.cell (cell_lt (hcl j u hj))).trans (hcl j u hj)
      have F2 := Lib.hid (F1.out.add (us := [.slice B k eb]) (ds := [bytesD D]) (F1.out.old (rvs_cons.2 ⟨hrb, rvs_nil⟩)))
      have HRD := Lib.hid ho3
      clear ho hrb hcl hk HMO ho1 ho3 F1
      go_upto_region 7 with (first | (refine wpList_load_atA rfl 36 _ rfl (ad.add (i * 4)) rfl #[.int .i64 off, .slice B k eb, .bool fe, .int .i64 rd] _ HKC.out Try.underlying36 rfl (by kernel_rfl) ?_) | (refine wpList_store_new rfl 36 _ _ rfl wr #[.int .i64 0, .slice none 0 0, .bool false, .int .i64 0] #[.int .i64 off, .slice B k eb, .bool fe, .int .i64 rd] rfl rfl (by kernel_rfl) rfl (by simp [Value.oneCell']) ?_) | go_in)
      have F3 := Lib.hid (F2.out.alloc #[.int .i64 off, .slice B k eb, .bool fe, .int .i64 rd] 36)
      obtain ⟨go, hgo⟩ : ∃ go, wr.heap.size = go := ⟨_, rfl⟩
      rw [hgo] at F3 ⊢
      generalize wr.alloc (.cells #[.int .i64 off, .slice B k eb, .bool fe, .int .i64 rd] 36) = w5 at F3 ⊢
      have HXQ := Lib.hid (F3.out.at (i := 2) rfl)
      have HXX := Lib.hid (F3.out.at (i := 1) rfl)
      have HRO := Lib.hid (rx_ones (F3.out.val (i := 1) rfl))
      have HAO := Lib.hid (rq_ones (F3.out.val (i := 2) rfl))
      clear HKC F2 hgo
      apply wp_region_relyV [2, 4, 3, 5] [9, 10] (NewT w5 2 4 9 29 #[.int .u32 0, .slice none 0 0, .slice none 0 0, .bool false, .int .u32 0, .bool false] (rqC (conc x) vD vA) 3 5 10 33 #[.int .u32 0, .string ⟨#[]⟩, .slice none 0 0, .int .i64 0, .bool false] (rxC x vx)) (RL [Is (.agg (rqC (conc x) vD vA)), Is (.agg (rxC x vx)), Any, Any, Any, Any]) [false, false, false, false, false, false, false, false, false, true, true, false, false, false, false, false, false, false, false, false, false, false, false, false, false, false, false, false, false, false, false, false, false, false, true, true, false, false, false, false, false, false, false, false, false, false, false, false, false, false, false, false, false, false, false, false, false, false, false, false, false, false, false, false, false, false, false, false, false, false, false, false, false, false, false, false, false, false, false, false, false, false, false, false, false, false, false, false, false, false, false, false, false, false, false, false, false, false, false, false, false, false, false, false, false, false, false, false, false, false, false, false, false, false, false, false, false, false, false, false, false, false, false, false, false, false, false, false, false, false, false, false, false, false]
      · kernel_rfl
      · kernel_rfl
      · kernel_rfl
      · refine ⟨?_, ?_, ?_, ?_, ?_, ?_, trivial⟩
        · intro L us ev w' hus hC hL hx hnd K hK
          have e5 : ev (.tmp 5) = _ := hx.base 5 (by kernel_rfl)
          have HK := Lib.hid hK
          have HC := Lib.hid hC
          have HL := Lib.hid hL
          have HX := Lib.hid hx
          have HUS := Lib.hid hus
          have HND := Lib.hid hnd
          have hc := hx.cst
          skip
          clear hx hK hC hL hus hnd
          have q1 : ev (.tmp 5) = .pointer (some ⟨g1, 0, none⟩) := e5
          have hld := run_loadVar_row (P := Try.prog) w' g1 29 29 (rqC (conc x) vD vA) (0, 0) _ ((HC.out.1.block _ (row_lt HXQ.out)).trans HXQ.out) Try.underlying29 rfl (by kernel_rfl)
          unfold Run
          rw [rely_load 29 _ rfl q1 hld]
          exact HK.out _ _ (.inl ⟨Below.refl _ _, by decide⟩) rfl
        · intro L us ev w' hus hC hL hx hnd K hK
          have e6 : ev (.tmp 6) = _ := hx.base 6 (by kernel_rfl)
          have HK := Lib.hid hK
          have HC := Lib.hid hC
          have HL := Lib.hid hL
          have HX := Lib.hid hx
          have HUS := Lib.hid hus
          have HND := Lib.hid hnd
          have hc := hx.cst
          skip
          clear hx hK hC hL hus hnd
          have q1 : ev (.tmp 6) = .pointer (some ⟨g2, 0, none⟩) := e6
          have hld := run_loadVar_row (P := Try.prog) w' g2 33 33 (rxC x vx) (0, 0) _ ((HC.out.1.block _ (row_lt HXX.out)).trans HXX.out) Try.underlying33 rfl (by kernel_rfl)
          unfold Run
          rw [rely_load 33 _ rfl q1 hld]
          exact HK.out _ _ (.inl ⟨Below.refl _ _, by decide⟩) rfl
        · intro L us ev w' hus hC hL hx hnd K hK
          have HK := Lib.hid hK
          have HC := Lib.hid hC
          have HL := Lib.hid hL
          have HX := Lib.hid hx
          have HUS := Lib.hid hus
          have HND := Lib.hid hnd
          have hc := hx.cst
          skip
          clear hx hK hC hL hus hnd
          have nst : L 4 = false := Bool.eq_false_iff.2 fun h => by have := HX.out.closed 4 _ 2 rfl h (by kernel_rfl); rw [HL.out] at this; cases this
          unfold Run
          simp [execOp, Upon, go_sem]
          exact HK.out _ _ (.inr ⟨HC.out.alloc1 nst (by decide) (by decide) (by decide) (by decide), fun j hj hlj u hr => rl_mono (Rs := [Is (.agg (rqC (conc x) vD vA)), Is (.agg (rxC x vx)), Any, Any, Any, Any]) ⟨is_mono _, is_mono _, any_mono, any_mono, any_mono, any_mono, trivial⟩ j u _ _ ((Below.refl _ _).alloc (Nat.le_refl _) _) hr⟩) trivial
        · intro L us ev w' hus hC hL hx hnd K hK
          have HK := Lib.hid hK
          have HC := Lib.hid hC
          have HL := Lib.hid hL
          have HX := Lib.hid hx
          have HUS := Lib.hid hus
          have HND := Lib.hid hnd
          have hc := hx.cst
          skip
          clear hx hK hC hL hus hnd
          have nst : L 5 = false := Bool.eq_false_iff.2 fun h => by have := HX.out.closed 5 _ 3 rfl h (by kernel_rfl); rw [HL.out] at this; cases this
          unfold Run
          simp [execOp, Upon, go_sem]
          exact HK.out _ _ (.inr ⟨HC.out.alloc2 nst (by decide) (by decide) (by decide) (by decide), fun j hj hlj u hr => rl_mono (Rs := [Is (.agg (rqC (conc x) vD vA)), Is (.agg (rxC x vx)), Any, Any, Any, Any]) ⟨is_mono _, is_mono _, any_mono, any_mono, any_mono, any_mono, trivial⟩ j u _ _ ((Below.refl _ _).alloc (Nat.le_refl _) _) hr⟩) trivial
        · intro L us ev w' hus hC hL hx hnd K hK
          have e9 := hx.held 2 _ rfl (by kernel_rfl)
          have e34 := hx.held 0 _ rfl (by kernel_rfl)
          change (Any : Pred) (ev (.tmp 9)) w' at e9
          change ev (.tmp 34) = _ at e34
          have HK := Lib.hid hK
          have HC := Lib.hid hC
          have HL := Lib.hid hL
          have HX := Lib.hid hx
          have HUS := Lib.hid hus
          have HND := Lib.hid hnd
          have hc := hx.cst
          skip
          clear hx hK hC hL hus hnd
          have qv : ev (.tmp 34) = .agg (rqC (conc x) vD vA) := e34
          have nst : L 4 = false := HL.out
          have lal : L 2 = true := HND.out 2 (by kernel_rfl)
          obtain ⟨g, hg, -⟩ := HC.out.2.1 lal
          have qp : ev (.tmp 9) = .pointer (some ⟨g, 0, none⟩) := (HUS.out 9).trans hg
          obtain ⟨hgh, hnv⟩ := HC.out.store1 (v := undef) lal nst hg (by decide) (by decide) (by decide)
          have hst := run_storeVar_row (P := Try.prog) w' g 29 29 #[.int .u32 0, .slice none 0 0, .slice none 0 0, .bool false, .int .u32 0, .bool false] (rqC (conc x) vD vA) hgh (by kernel_rfl) rfl HAO.out
          unfold Run
          rw [rely_store 29 _ _ rfl qp qv hst]
          refine HK.out _ _ (.inr ⟨hnv, fun j hj hlj u hr => ?_⟩) trivial
          rcases j with _ | _ | _ | _ | _ | _ | j
          · exact hr
          · exact hr
          · exact trivial
          · exact trivial
          · exact absurd rfl hj
          · exact trivial
          · exact trivial
        · intro L us ev w' hus hC hL hx hnd K hK
          have e10 := hx.held 3 _ rfl (by kernel_rfl)
          have e35 := hx.held 1 _ rfl (by kernel_rfl)
          change (Any : Pred) (ev (.tmp 10)) w' at e10
          change ev (.tmp 35) = _ at e35
          have HK := Lib.hid hK
          have HC := Lib.hid hC
          have HL := Lib.hid hL
          have HX := Lib.hid hx
          have HUS := Lib.hid hus
          have HND := Lib.hid hnd
          have hc := hx.cst
          skip
          clear hx hK hC hL hus hnd
          have qv : ev (.tmp 35) = .agg (rxC x vx) := e35
          have nst : L 5 = false := HL.out
          have lal : L 3 = true := HND.out 3 (by kernel_rfl)
          obtain ⟨g, hg, -⟩ := HC.out.2.2.1 lal
          have qp : ev (.tmp 10) = .pointer (some ⟨g, 0, none⟩) := (HUS.out 10).trans hg
          obtain ⟨hgh, hnv⟩ := HC.out.store2 (v := undef) lal nst hg (by decide) (by decide) (by decide)
          have hst := run_storeVar_row (P := Try.prog) w' g 33 33 #[.int .u32 0, .string ⟨#[]⟩, .slice none 0 0, .int .i64 0, .bool false] (rxC x vx) hgh (by kernel_rfl) rfl HRO.out
          unfold Run
          rw [rely_store 33 _ _ rfl qp qv hst]
          refine HK.out _ _ (.inr ⟨hnv, fun j hj hlj u hr => ?_⟩) trivial
          rcases j with _ | _ | _ | _ | _ | _ | j
          · exact hr
          · exact hr
          · exact trivial
          · exact trivial
          · exact trivial
          · exact absurd rfl hj
          · exact trivial
      · exact rl_mono ⟨is_mono _, is_mono _, any_mono, any_mono, any_mono, any_mono, trivial⟩
      · exact fun L L' us us' w' h1 h2 hg => hg.agree (h1 2 (by simp)) (h1 4 (by simp)) (h2 9 (by simp)) (h1 3 (by simp)) (h1 5 (by simp)) (h2 10 (by simp))
      · exact fun L us w' w'' hb hg => hg.below hb
      · kernel_rfl
      · exact NewT.start
      · simp
      intro us wr hG hH
      obtain ⟨-, -, -, -, -, -, -⟩ := hH
      simp only [fillM]
      obtain ⟨hB9, hN1, hN2, -⟩ := hG
      obtain ⟨gn1, hgn1, hgb1, hvn1⟩ := hN1 rfl
      obtain ⟨gn2, hgn2, hgb2, hvn2⟩ := hN2 rfl
      rw [hgn1, hgn2]
      have HVN1 : Hid (wr.heap[gn1]? = some (.cells (rqC (conc x) vD vA) 29 (0, 0))) := hvn1
      have HVN2 : Hid (wr.heap[gn2]? = some (.cells (rxC x vx) 33 (0, 0))) := hvn2
      have HGB1 := Lib.hid hgb1
      have HGB2 := Lib.hid hgb2
      have HB9 := Lib.hid hB9
      clear hB9 hN1 hN2 hgb1 hgb2 hvn1 hvn2
      generalize us 34 = v34
      generalize us 35 = v35
      clear hgn1 hgn2
      have F4 : Hid (Frm w _ [(gn1, (rqC (conc x) vD vA), 29), (gn2, (rxC x vx), 33), (go, #[.int .i64 off, .slice B k eb, .bool fe, .int .i64 rd], 36), (g2, (rxC x vx), 33), (g1, (rqC (conc x) vD vA), 29)] [([.slice B k eb], [bytesD D]), ((rxC x vx).toList, rxD x), ((rqC (conc x) vD vA).toList, rqD (conc x))]) := Lib.hid (F3.out.two HB9.out HGB1.out HVN1.out HGB2.out HVN2.out (ne_type HVN1.out HVN2.out (by decide)))
      clear F3 HXQ HXX HGB1 HGB2 HB9 HVN1 HVN2
      rename World => wq
      obtain ⟨o0, o1, o2, o3⟩ := four_at (F4.out.at (i := 2) rfl)
      go_upto_if 38 with (fail)
      go_cut [] (fun wx => ∃ (y : Rx) (a b u : Value), Hid (OkX y) ∧ Hid (Frm w wx [(gn1, (rqC (conc y) a b), 29), (gn2, (rxC y u), 33), (go, #[.int .i64 off, .slice B k eb, .bool fe, .int .i64 rd], 36), (g2, (rxC x vx), 33), (g1, (rqC (conc x) vD vA), 29)] [((rxC y u).toList, rxD y), ((rqC (conc y) a b).toList, rqD (conc y)), ((rxC x vx).toList, rxD x), ((rqC (conc x) vD vA).toList, rqD (conc x))]))
      case first =>
        by_cases hrd0 : 0 < rd
        · obtain ⟨y, hy⟩ : ∃ y, readX x rd = y := ⟨_, rfl⟩
          obtain ⟨L, hL⟩ : ∃ L, x.data.take (cutX x rd) = L := ⟨_, rfl⟩
          have HOY : Hid (OkX y) := by rw [← hy]; exact read_ok HOX.out rd
          have HCA := Lib.hid (fun w' hb => read_any x (rqC (conc x) vD vA) _ rd w' (rvs_call (F4.out.val (i := 2) rfl) hb) HOX.out HRD.out)
          have HCB := Lib.hid (fun w' S (hr : Rvs w' S (rxC x vx).toList (rxD x)) => refread_any x (rxC x vx) S rd w' hr HOX.out.data HOX.out.got)
          rw [hy, hL] at HCA HCB
          clear hy hL
          go_wp2_with (refine wpList_load_row rfl 29 _ rfl g1 rfl 29 (rqC (conc x) vD vA) (0, 0) _ (F4.out.at (i := 4) rfl) Try.underlying29 rfl (by kernel_rfl) ?_)
          refine (HCA.out _ (Below.refl _ _)).mono ?_
          rintro e w6 ⟨cs', vb, rfl, hr, hrb, hb⟩
          obtain ⟨vD', vA', rfl, h1⟩ := rq_of hr
          have H1 := Lib.hid h1
          have F5 := Lib.hid ((F4.out.res hb hr).more F4.out (us := [vb]) (ds := [bytesD L]) (rvs_cons.2 ⟨hrb, rvs_nil⟩))
          clear h1 hr hrb hb F4 o0 o1 o2 o3 HCA
          obtain ⟨o0, o1, o2, o3⟩ := four_at (F5.out.at (i := 2) rfl)
          go_upto_region 12 with (first | (refine wpList_store_row rfl 29 _ _ rfl gn1 (rqC (conc y) vD' vA') rfl rfl 29 (rqC (conc x) vD vA) (F5.out.at (i := 0) rfl) (by kernel_rfl) rfl H1.out ?_) | go_in)
          have F6 : Hid (Frm w (w6.setRow gn1 (rqC (conc y) vD' vA')) [(gn1, (rqC (conc y) vD' vA'), 29), (gn2, (rxC x vx), 33), (go, #[.int .i64 off, .slice B k eb, .bool fe, .int .i64 rd], 36), (g2, (rxC x vx), 33), (g1, (rqC (conc x) vD vA), 29)] [([vb], [bytesD L]), ((rqC (conc y) vD' vA').toList, rqD (conc y)), ([.slice B k eb], [bytesD D]), ((rxC x vx).toList, rxD x), ((rqC (conc x) vD vA).toList, rqD (conc x))]) := Lib.hid (F5.out.put (i := 0) rfl _)
          generalize w6.setRow gn1 (rqC (conc y) vD' vA') = w7 at F6 ⊢
          clear F5 H1 o0 o1 o2 o3
          obtain ⟨o0, o1, o2, o3⟩ := four_at (F6.out.at (i := 2) rfl)
          go_wp2_with (refine wpList_load_row rfl 33 _ rfl g2 rfl 33 (rxC x vx) (0, 0) _ (F6.out.at (i := 3) rfl) Try.underlying33 rfl (by kernel_rfl) ?_)
          refine (HCB.out _ _ (F6.out.val (i := 3) rfl)).mono ?_
          rintro e w8 ⟨cs', rfl, hr, hb⟩
          obtain ⟨vx', rfl, h1⟩ := rx_of hr
          have H1 := Lib.hid h1
          have F7 := Lib.hid (F6.out.res hb (hr.wide fun _ h => .inl h))
          clear h1 hr hb F6 o0 o1 o2 o3 HCB
          go_upto_region 13 with (first | (refine wpList_store_row rfl 33 _ _ rfl gn2 (rxC y vx') rfl rfl 33 (rxC x vx) (F7.out.at (i := 1) rfl) (by kernel_rfl) rfl H1.out ?_) | go_in)
          have F8 : Hid (Frm w (w8.setRow gn2 (rxC y vx')) [(gn1, (rqC (conc y) vD' vA'), 29), (gn2, (rxC y vx'), 33), (go, #[.int .i64 off, .slice B k eb, .bool fe, .int .i64 rd], 36), (g2, (rxC x vx), 33), (g1, (rqC (conc x) vD vA), 29)] [((rxC y vx').toList, rxD y), ([vb], [bytesD L]), ((rqC (conc y) vD' vA').toList, rqD (conc y)), ([.slice B k eb], [bytesD D]), ((rxC x vx).toList, rxD x), ((rqC (conc x) vD vA).toList, rqD (conc x))]) := Lib.hid (F7.out.put (i := 1) rfl _)
          generalize w8.setRow gn2 (rxC y vx') = w9 at F8 ⊢
          clear F7 H1
          have hcv := conv_bytes (rvs_cons.1 (F8.out.val (i := 1) rfl)).1 w9 (Below.refl _ _)
          have HF9 : Hid (Frm w w9 [(gn1, (rqC (conc y) vD' vA'), 29), (gn2, (rxC y vx'), 33), (go, #[.int .i64 off, .slice B k eb, .bool fe, .int .i64 rd], 36), (g2, (rxC x vx), 33), (g1, (rqC (conc x) vD vA), 29)] [((rxC y vx').toList, rxD y), ((rqC (conc y) vD' vA').toList, rqD (conc y)), ((rxC x vx).toList, rxD x), ((rqC (conc x) vD vA).toList, rqD (conc x))]) := Lib.hid (F8.out.drop 0 rfl (fun p hp => by simp only [List.mem_cons, List.not_mem_nil, or_false] at hp ⊢; rcases hp with rfl | rfl | rfl | rfl <;> simp))
          clear F8
          rw [show txtV L = .string ⟨L.toArray⟩ from rfl]
          go_wp2
          go_meet
          case rel => exact ⟨y, vD', vA', vx', HOY, HF9⟩
        · obtain ⟨AT, hAT⟩ : ∃ AT, addS x.next off = AT := ⟨_, rfl⟩
          have HAU : Hid (U32 AT) := by rw [← hAT]; exact ⟨addS_ge _ _, addS_le _ _⟩
          obtain ⟨y, hy⟩ : ∃ y, acceptX x AT D fe = y := ⟨_, rfl⟩
          have HOY : Hid (OkX y) := by rw [← hy]; exact accept_ok HOX.out AT D fe
          have HD10 : Hid (D.length ≤ 1000) := by show _ ≤ _; rw [HDK.out]; omega
          have HCA := Lib.hid (fun w' S S2 v (hr : Rvs w' S (rqC (conc x) vD vA).toList (rqD (conc x))) (hv : Rv w' S2 v (bytesD D)) => accept_any x (rqC (conc x) vD vA) S S2 AT v D fe w' hr HOX.out HAU.out hv HD10.out)
          have HCB := Lib.hid (fun w' S (hr : Rvs w' S (rxC x vx).toList (rxD x)) => refaccept_any x (rxC x vx) S AT D fe w' hr HOX.out HAU.out HD10.out)
          rw [hy] at HCA HCB
          have HWA : Hid (((conc x).next + off % 4294967296) % 4294967296 = AT) := by rw [← hAT]; exact wrap_add x.next off
          clear hy hAT
          obtain ⟨q0, -⟩ := rq_cells (F4.out.at (i := 4) rfl)
          go_upto_region 16 with (fail)
          rw [HWA.out]
          clear q0 HWA o0 o1 o2 o3
          have F5 := Lib.hid (F4.out.call ((Below.refl _ _).alloc (Nat.le_refl _) (.cells #[] 5)))
          obtain ⟨hR0, hnil, hle, hmx⟩ := rd_bytes (rvs_cons.1 (F5.out.val (i := 0) rfl)).1 HDK.out
          have R0 := Lib.hid hR0
          have HNIL := Lib.hid hnil
          have HOW : Hid ((wq.alloc (.cells #[] 5)).ownsRow wq.heap.size 5 1 (.slice (some ⟨wq.heap.size, 0, none⟩) 0 0) 0 []) := own_empty wq 5 1
          obtain ⟨i0, hi0, hz0, hz1, hz2⟩ := info_parts info_u8
          have hz3 : ((.int .u8 0) : Value).cells.size = 1 := rfl
          obtain ⟨o0, o1, o2, o3⟩ := four_at (F5.out.at (i := 2) rfl)
          clear hR0 hnil hle hmx
          go_upto_region 17 with (first | (at_builtin; refine wpList_append_rdk (P := Try.prog) rfl _ _ 26 rfl wq.heap.size 5 i0 _ 1 1 Try.underlying26 hi0 hz0 hz1 hz2 hz3 (by omega) _ 0 [] rfl HOW.out B k eb (cells D) rfl HNIL.out (by rw [cells_length, HDK.out, Nat.mul_one]) R0.out (cells_one D) (by unfold maxLen; omega) (by omega) (by simp) ?_; intro v9 w6 hown hgrow _) | go_in)
          have hb6 : Below wq.heap.size wq w6 := ((Below.refl wq.heap.size wq).alloc (Nat.le_refl _) _).grown hgrow (by simp) fun g hg => (HOW.out.lt g hg).1
          have hof : w6.ownsRow wq.heap.size 5 1 v9 k (cells D) := by simpa using hown
          obtain ⟨A9, c9, rfl, -⟩ := ownk_form hof
          have HOF := Lib.hid hof
          have HB6 := Lib.hid hb6
          clear hown hgrow hb6 hof HOW R0 HNIL F5 hi0 hz0 hz1 hz2 hz3 o0 o1 o2 o3
          rcases Nat.eq_zero_or_pos k with hk0 | hk0
          · subst hk0
            have F5 := Lib.hid (F4.out.call HB6.out)
            have HVO := Lib.hid (own_bytes HOF.out HDK.out)
            clear HOF HB6 F4
            obtain ⟨o0, o1, o2, o3⟩ := four_at (F5.out.at (i := 2) rfl)
            go_wp2_with (refine wpList_load_row rfl 29 _ rfl g1 rfl 29 (rqC (conc x) vD vA) (0, 0) _ (F5.out.at (i := 4) rfl) Try.underlying29 rfl (by kernel_rfl) ?_)
            refine (HCA.out _ _ _ _ (F5.out.val (i := 2) rfl) HVO.out).mono ?_
            rintro e w7 ⟨cs', rfl, hr, hb⟩
            obtain ⟨vD', vA', rfl, h1⟩ := rq_of hr
            have H1 := Lib.hid h1
            have F6 := Lib.hid (F5.out.res hb hr)
            clear h1 hr hb F5 o0 o1 o2 o3 HCA HVO
            obtain ⟨o0, o1, o2, o3⟩ := four_at (F6.out.at (i := 2) rfl)
            go_upto_region 18 with (first | (refine wpList_store_row rfl 29 _ _ rfl gn1 (rqC (conc y) vD' vA') rfl rfl 29 (rqC (conc x) vD vA) (F6.out.at (i := 0) rfl) (by kernel_rfl) rfl H1.out ?_) | go_in)
            have F7 : Hid (Frm w (w7.setRow gn1 (rqC (conc y) vD' vA')) [(gn1, (rqC (conc y) vD' vA'), 29), (gn2, (rxC x vx), 33), (go, #[.int .i64 off, .slice B 0 eb, .bool fe, .int .i64 rd], 36), (g2, (rxC x vx), 33), (g1, (rqC (conc x) vD vA), 29)] [((rqC (conc y) vD' vA').toList, rqD (conc y)), ([.slice B 0 eb], [bytesD D]), ((rxC x vx).toList, rxD x), ((rqC (conc x) vD vA).toList, rqD (conc x))]) := Lib.hid (F6.out.put (i := 0) rfl _)
            generalize w7.setRow gn1 (rqC (conc y) vD' vA') = w8 at F7 ⊢
            clear F6 H1 o0 o1 o2 o3
            obtain ⟨o0, o1, o2, o3⟩ := four_at (F7.out.at (i := 2) rfl)
            have hcv := conv_bytes (rvs_cons.1 (F7.out.val (i := 1) rfl)).1 w8 (Below.refl _ _)
            go_wp2_with (refine wpList_load_row rfl 33 _ rfl g2 rfl 33 (rxC x vx) (0, 0) _ (F7.out.at (i := 3) rfl) Try.underlying33 rfl (by kernel_rfl) ?_)
            refine (HCB.out _ _ (F7.out.val (i := 2) rfl)).mono ?_
            rintro e w9 ⟨cs', rfl, hr, hb⟩
            obtain ⟨vx', rfl, h1⟩ := rx_of hr
            have H1 := Lib.hid h1
            have F8 := Lib.hid (F7.out.res hb hr)
            clear h1 hr hb F7 o0 o1 o2 o3 HCB hcv
            go_upto_region 19 with (first | (refine wpList_store_row rfl 33 _ _ rfl gn2 (rxC y vx') rfl rfl 33 (rxC x vx) (F8.out.at (i := 1) rfl) (by kernel_rfl) rfl H1.out ?_) | go_in)
            have F9 : Hid (Frm w (w9.setRow gn2 (rxC y vx')) [(gn1, (rqC (conc y) vD' vA'), 29), (gn2, (rxC y vx'), 33), (go, #[.int .i64 off, .slice B 0 eb, .bool fe, .int .i64 rd], 36), (g2, (rxC x vx), 33), (g1, (rqC (conc x) vD vA), 29)] [((rxC y vx').toList, rxD y), ((rqC (conc y) vD' vA').toList, rqD (conc y)), ([.slice B 0 eb], [bytesD D]), ((rxC x vx).toList, rxD x), ((rqC (conc x) vD vA).toList, rqD (conc x))]) := Lib.hid (F8.out.put (i := 1) rfl _)
            generalize w9.setRow gn2 (rxC y vx') = w10 at F9 ⊢
            clear F8 H1
            have F10 : Hid (Frm w w10 [(gn1, (rqC (conc y) vD' vA'), 29), (gn2, (rxC y vx'), 33), (go, #[.int .i64 off, .slice B 0 eb, .bool fe, .int .i64 rd], 36), (g2, (rxC x vx), 33), (g1, (rqC (conc x) vD vA), 29)] [((rxC y vx').toList, rxD y), ((rqC (conc y) vD' vA').toList, rqD (conc y)), ((rxC x vx).toList, rxD x), ((rqC (conc x) vD vA).toList, rqD (conc x))]) := Lib.hid (F9.out.drop 0 rfl (fun p hp => by simp only [List.mem_cons, List.not_mem_nil, or_false] at hp ⊢; rcases hp with rfl | rfl | rfl | rfl <;> simp))
            clear F9
            go_wp2
            go_loopw [83] (fun t83 wr => t83 = .int .i64 0 ∧ Hid (w10 = wr)) (fun _ _ => 0)
            case atStart => exact ⟨rfl, Lib.hid rfl⟩
            case round =>
              obtain ⟨rfl, hwr⟩ := hrel
              obtain rfl := hwr.out
              go_wp2
              go_meet
              case rel => exact ⟨y, vD', vA', vx', HOY, F10⟩
          · obtain ⟨g9, c9', cur0, e9, -⟩ := ownk_some HOF.out hk0
            injection e9 with e9 _ e9'
            subst e9 e9'
            obtain ⟨cur, hF, hc1, hc2⟩ := F4.out.own HB6.out HOF.out hk0
            have F5 : Hid (Frm w w6 [(g9, cur, 5), (gn1, (rqC (conc x) vD vA), 29), (gn2, (rxC x vx), 33), (go, #[.int .i64 off, .slice B k eb, .bool fe, .int .i64 rd], 36), (g2, (rxC x vx), 33), (g1, (rqC (conc x) vD vA), 29)] [([.slice B k eb], [bytesD D]), ((rxC x vx).toList, rxD x), ((rqC (conc x) vD vA).toList, rqD (conc x))]) := hF
            have HC1 : Hid (cur.toList.take k = cells (incL D 0)) := by
              show _ = _
              rw [incL_zero]
              exact hc1
            have HC2 := Lib.hid hc2
            clear hF hc1 hc2
            have HVO := Lib.hid (own_bytes HOF.out HDK.out)
            clear HOF HB6 F4
            obtain ⟨o0, o1, o2, o3⟩ := four_at (F5.out.at (i := 3) rfl)
            go_wp2_with (refine wpList_load_row rfl 29 _ rfl g1 rfl 29 (rqC (conc x) vD vA) (0, 0) _ (F5.out.at (i := 5) rfl) Try.underlying29 rfl (by kernel_rfl) ?_)
            refine (HCA.out _ _ _ _ (F5.out.val (i := 2) rfl) HVO.out).mono ?_
            rintro e w7 ⟨cs', rfl, hr, hb⟩
            obtain ⟨vD', vA', rfl, h1⟩ := rq_of hr
            have H1 := Lib.hid h1
            have F6 := Lib.hid (F5.out.res hb hr)
            clear h1 hr hb F5 o0 o1 o2 o3 HCA HVO
            obtain ⟨o0, o1, o2, o3⟩ := four_at (F6.out.at (i := 3) rfl)
            go_upto_region 18 with (first | (refine wpList_store_row rfl 29 _ _ rfl gn1 (rqC (conc y) vD' vA') rfl rfl 29 (rqC (conc x) vD vA) (F6.out.at (i := 1) rfl) (by kernel_rfl) rfl H1.out ?_) | go_in)
            have F7 : Hid (Frm w (w7.setRow gn1 (rqC (conc y) vD' vA')) [(g9, cur, 5), (gn1, (rqC (conc y) vD' vA'), 29), (gn2, (rxC x vx), 33), (go, #[.int .i64 off, .slice B k eb, .bool fe, .int .i64 rd], 36), (g2, (rxC x vx), 33), (g1, (rqC (conc x) vD vA), 29)] [((rqC (conc y) vD' vA').toList, rqD (conc y)), ([.slice B k eb], [bytesD D]), ((rxC x vx).toList, rxD x), ((rqC (conc x) vD vA).toList, rqD (conc x))]) := Lib.hid (F6.out.put (i := 1) rfl _)
            generalize w7.setRow gn1 (rqC (conc y) vD' vA') = w8 at F7 ⊢
            clear F6 H1 o0 o1 o2 o3
            obtain ⟨o0, o1, o2, o3⟩ := four_at (F7.out.at (i := 3) rfl)
            have hcv := conv_bytes (rvs_cons.1 (F7.out.val (i := 1) rfl)).1 w8 (Below.refl _ _)
            go_wp2_with (refine wpList_load_row rfl 33 _ rfl g2 rfl 33 (rxC x vx) (0, 0) _ (F7.out.at (i := 4) rfl) Try.underlying33 rfl (by kernel_rfl) ?_)
            refine (HCB.out _ _ (F7.out.val (i := 2) rfl)).mono ?_
            rintro e w9 ⟨cs', rfl, hr, hb⟩
            obtain ⟨vx', rfl, h1⟩ := rx_of hr
            have H1 := Lib.hid h1
            have F8 := Lib.hid (F7.out.res hb hr)
            clear h1 hr hb F7 o0 o1 o2 o3 HCB hcv
            go_upto_region 19 with (first | (refine wpList_store_row rfl 33 _ _ rfl gn2 (rxC y vx') rfl rfl 33 (rxC x vx) (F8.out.at (i := 2) rfl) (by kernel_rfl) rfl H1.out ?_) | go_in)
            have F9 : Hid (Frm w (w9.setRow gn2 (rxC y vx')) [(g9, cur, 5), (gn1, (rqC (conc y) vD' vA'), 29), (gn2, (rxC y vx'), 33), (go, #[.int .i64 off, .slice B k eb, .bool fe, .int .i64 rd], 36), (g2, (rxC x vx), 33), (g1, (rqC (conc x) vD vA), 29)] [((rxC y vx').toList, rxD y), ((rqC (conc y) vD' vA').toList, rqD (conc y)), ([.slice B k eb], [bytesD D]), ((rxC x vx).toList, rxD x), ((rqC (conc x) vD vA).toList, rqD (conc x))]) := Lib.hid (F8.out.put (i := 2) rfl _)
            generalize w9.setRow gn2 (rxC y vx') = w10 at F9 ⊢
            clear F8 H1
            have F10 : Hid (Frm w w10 [(g9, cur, 5), (gn1, (rqC (conc y) vD' vA'), 29), (gn2, (rxC y vx'), 33), (go, #[.int .i64 off, .slice B k eb, .bool fe, .int .i64 rd], 36), (g2, (rxC x vx), 33), (g1, (rqC (conc x) vD vA), 29)] [((rxC y vx').toList, rxD y), ((rqC (conc y) vD' vA').toList, rqD (conc y)), ((rxC x vx).toList, rxD x), ((rqC (conc x) vD vA).toList, rqD (conc x))]) := Lib.hid (F9.out.drop 0 rfl (fun p hp => by simp only [List.mem_cons, List.not_mem_nil, or_false] at hp ⊢; rcases hp with rfl | rfl | rfl | rfl <;> simp))
            clear F9
            go_wp2
            go_loopw [83] (fun t83 wr => ∃ (kk : Nat) (cu : Array Value), kk ≤ k ∧ t83 = .int .i64 (kk : Int) ∧ Hid (Frm w wr [(g9, cu, 5), (gn1, (rqC (conc y) vD' vA'), 29), (gn2, (rxC y vx'), 33), (go, #[.int .i64 off, .slice B k eb, .bool fe, .int .i64 rd], 36), (g2, (rxC x vx), 33), (g1, (rqC (conc x) vD vA), 29)] [((rxC y vx').toList, rxD y), ((rqC (conc y) vD' vA').toList, rqD (conc y)), ((rxC x vx).toList, rxD x), ((rqC (conc x) vD vA).toList, rqD (conc x))]) ∧ Hid (cu.toList.take k = cells (incL D kk)) ∧ Hid (k ≤ cu.size)) (fun t83 _ => k - (intOf t83).toNat)
            case atStart => exact ⟨0, cur, Nat.zero_le _, rfl, F10, HC1, HC2⟩
            case round =>
              clear F10 HC1 HC2
              obtain ⟨kk, cu, hkk, rfl, F11, HC1, HC2⟩ := hrel
              by_cases hks : kk < k
              · have hkD : kk < D.length := by rw [HDK.out]; exact hks
                have hcell : wr.cell? ⟨g9, kk, none⟩ = some (.int .u8 (D[kk].toNat : Int)) := by
                  rw [cell_of_row _ _ _ _ _ _ (F11.out.at (i := 0) rfl)]
                  exact byte_row HC1.out HDK.out hkD
                have hfz := frozen_of_row wr g9 kk cu _ (F11.out.at (i := 0) rfl)
                have HN1 := Lib.hid (byte_next HC1.out hkD)
                obtain ⟨xx, hxx⟩ : ∃ x, D[kk].toNat = x := ⟨_, rfl⟩
                have hxb : xx < 256 := by rw [← hxx]; exact D[kk].toNat_lt
                have hinc : (((D[kk] + 1).toNat : Nat) : Int) = IntKind.u8.wrap ((xx : Int) + 1) := by
                  rw [IntKind.wrap_u8', UInt8.toNat_add, hxx]
                  show ((_ : Nat) : Int) = _
                  rw [show (1 : UInt8).toNat = 1 from rfl]
                  omega
                rw [hinc] at HN1
                rw [hxx] at hcell
                have HS9 : Hid (wr.setCell ⟨g9, kk, none⟩ (.int .u8 (IntKind.u8.wrap ((xx : Int) + 1))) = wr.setRow g9 (cu.setIfInBounds kk (.int .u8 (IntKind.u8.wrap ((xx : Int) + 1))))) := setCell_eq_setRow wr g9 kk cu _ (0, 0) _ (F11.out.at (i := 0) rfl)
                have F12 := Lib.hid (F11.out.put (i := 0) rfl (cu.setIfInBounds kk (.int .u8 (IntKind.u8.wrap ((xx : Int) + 1)))))
                have HC3 : Hid (k ≤ (cu.setIfInBounds kk (.int .u8 (IntKind.u8.wrap ((xx : Int) + 1)))).size) := by
                  show _ ≤ _
                  rw [Array.size_setIfInBounds]
                  exact HC2.out
                rw [← HS9.out] at F12
                clear hinc hxx HC1 HC2 F11 HS9 hkD
                go_wp2
                go_roundw
                case rel => exact ⟨kk + 1, _, by omega, by go_num, F12, HN1, HC3⟩
                case measure => simp [intOf]; omega
              · have hkn : ¬ (kk : Int) < (k : Int) := by omega
                have F12 : Hid (Frm w wr [(gn1, (rqC (conc y) vD' vA'), 29), (gn2, (rxC y vx'), 33), (go, #[.int .i64 off, .slice B k eb, .bool fe, .int .i64 rd], 36), (g2, (rxC x vx), 33), (g1, (rqC (conc x) vD vA), 29)] [((rxC y vx').toList, rxD y), ((rqC (conc y) vD' vA').toList, rqD (conc y)), ((rxC x vx).toList, rxD x), ((rqC (conc x) vD vA).toList, rqD (conc x))]) := Lib.hid (F11.out.drop 1 rfl (fun _ h => h))
                clear F11 HC1 HC2
                go_wp2
                go_meet
                case rel => exact ⟨y, vD', vA', vx', HOY, F12⟩
      case rest =>
        obtain ⟨y, vDy, vAy, vxy, HOY, F5⟩ := hcut
        clear F4 o0 o1 o2 o3
        have HN := Lib.hid (F5.out.at (i := 0) rfl)
        have HY := Lib.hid (F5.out.at (i := 1) rfl)
        have HXX := Lib.hid (F5.out.at (i := 3) rfl)
        have HXQ := Lib.hid (F5.out.at (i := 4) rfl)
        have HLX := Lib.hid (fun w9 (hb : Below wc.heap.size wc w9) => like_any x _ _ _ _ w9 (rvs_call (F5.out.val (i := 2) rfl) hb) (rvs_call (F5.out.val (i := 3) rfl) hb) HOX.out)
        have HLY := Lib.hid (fun w9 (hb : Below wc.heap.size wc w9) => like_any y _ _ _ _ w9 (rvs_call (F5.out.val (i := 0) rfl) hb) (rvs_call (F5.out.val (i := 1) rfl) hb) HOY.out)
        have HRI := Lib.hid (fun w9 (hb : Below wc.heap.size wc w9) => right_any y _ _ w9 (rvs_call (F5.out.val (i := 1) rfl) hb) HOY.out)
        have HWI := Lib.hid (fun w9 (hb : Below wc.heap.size wc w9) => window_any y _ _ w9 (rvs_call (F5.out.val (i := 1) rfl) hb) HOY.out)
        have HWX := Lib.hid (fun w9 (hb : Below wc.heap.size wc w9) => refwindow_any y _ _ w9 (rvs_call (F5.out.val (i := 0) rfl) hb) (Nat.le_trans HOY.out.data (by decide)))
        have HEN := Lib.hid (fun w9 (hb : Below wc.heap.size wc w9) => ended_any y _ _ w9 (rvs_call (F5.out.val (i := 1) rfl) hb) HOY.out)
        have C4 : Hid (∀ w9, Reg wc w9 → w9.cell? ((⟨gn2, 0, none⟩ : Addr).add 4) = some (.bool y.done)) := Lib.hid (var_cell HY.out 4 rfl)
        have C1 : Hid (∀ w9, Reg wc w9 → w9.cell? ((⟨gn2, 0, none⟩ : Addr).add 1) = some (txtV y.data)) := Lib.hid (var_cell HY.out 1 rfl)
        have HN1 := Lib.hid (rq_ones (F5.out.val (i := 1) rfl))
        have HY1 := Lib.hid (rx_ones (F5.out.val (i := 0) rfl))
        obtain ⟨dn, hdn⟩ : ∃ dn, y.done = dn := ⟨_, rfl⟩
        obtain ⟨dt, hdt⟩ : ∃ dt, y.data = dt := ⟨_, rfl⟩
        rw [hdn] at C4
        rw [hdt] at C1
        rw [hdn, hdt] at HEN
        rw [show txtV dt = .string ⟨dt.toArray⟩ from rfl] at C1
        clear hdn hdt
        go_upto_region 24 with (fail)
        cases dn
        · refine wp_region_quiet_below (by kernel_rfl) (by kernel_rfl) ?_
          (refine wpQuiet_step (fun K hK => ?_); refine quiet_load_at (by kernel_rfl) 33 _ rfl (⟨g2, 0, none⟩ : Addr) (by first | rfl | (simp [Act.eval, Addr.add_mid])) (rxC x vx) _ (fun w9 hr9 => var_all HXX.out w9 (reg_below hr9)) Try.underlying33 rfl (by kernel_rfl) ?_; refine hK _ ?_; clear hK K; go_frame)
          (refine wpQuiet_step (fun K hK => ?_); refine quiet_load_at (by kernel_rfl) 29 _ rfl (⟨g1, 0, none⟩ : Addr) (by first | rfl | (simp [Act.eval, Addr.add_mid])) (rqC (conc x) vD vA) _ (fun w9 hr9 => var_all HXQ.out w9 (reg_below hr9)) Try.underlying29 rfl (by kernel_rfl) ?_; refine hK _ ?_; clear hK K; go_frame)
          quiet_step (first | (go_at_call 16; exact Calls.regrown_of (HLX.out _ (below_regrown _ _ _))))
          (first | go_big_quiet_step (fail) | quiet_step (fail))
          (first | go_big_quiet_step (fail) | quiet_step (fail))
          (refine wpQuiet_step (fun K hK => ?_); refine quiet_load_at (by kernel_rfl) 33 _ rfl (⟨gn2, 0, none⟩ : Addr) (by first | rfl | (simp [Act.eval, Addr.add_mid])) (rxC y vxy) _ (fun w9 hr9 => var_all HY.out w9 (reg_below hr9)) Try.underlying33 rfl (by kernel_rfl) ?_; refine hK _ ?_; clear hK K; go_frame)
          (refine wpQuiet_step (fun K hK => ?_); refine quiet_load_at (by kernel_rfl) 29 _ rfl (⟨gn1, 0, none⟩ : Addr) (by first | rfl | (simp [Act.eval, Addr.add_mid])) (rqC (conc y) vDy vAy) _ (fun w9 hr9 => var_all HN.out w9 (reg_below hr9)) Try.underlying29 rfl (by kernel_rfl) ?_; refine hK _ ?_; clear hK K; go_frame)
          quiet_step (first | (go_at_call 16; exact Calls.regrown_of (HLY.out _ (below_regrown _ _ _))))
          (first | go_big_quiet_step (fail) | quiet_step (fail))
          (first | go_big_quiet_step (fail) | quiet_step (fail))
          (first | go_big_quiet_step (fail) | quiet_step (fail))
          (refine wpQuiet_step (fun K hK => ?_); refine quiet_load_at (by kernel_rfl) 29 _ rfl (⟨gn1, 0, none⟩ : Addr) (by first | rfl | (simp [Act.eval, Addr.add_mid])) (rqC (conc y) vDy vAy) _ (fun w9 hr9 => var_all HN.out w9 (reg_below hr9)) Try.underlying29 rfl (by kernel_rfl) ?_; refine hK _ ?_; clear hK K; go_frame)
          quiet_step (first | (go_at_call 17; exact Calls.regrown_of (HRI.out _ (below_regrown _ _ _))))
          (first | go_big_quiet_step (fail) | quiet_step (fail))
          (first | go_big_quiet_step (fail) | quiet_step (fail))
          (first | go_big_quiet_step (fail) | quiet_step (fail))
          (refine wpQuiet_step (fun K hK => ?_); refine quiet_load_at (by kernel_rfl) 29 _ rfl (⟨gn1, 0, none⟩ : Addr) (by first | rfl | (simp [Act.eval, Addr.add_mid])) (rqC (conc y) vDy vAy) _ (fun w9 hr9 => var_all HN.out w9 (reg_below hr9)) Try.underlying29 rfl (by kernel_rfl) ?_; refine hK _ ?_; clear hK K; go_frame)
          quiet_step (first | (go_at_call 18; exact Calls.regrown_of (HWI.out _ (below_regrown _ _ _))))
          (refine wpQuiet_step (fun K hK => ?_); refine quiet_load_at (by kernel_rfl) 33 _ rfl (⟨gn2, 0, none⟩ : Addr) (by first | rfl | (simp [Act.eval, Addr.add_mid])) (rxC y vxy) _ (fun w9 hr9 => var_all HY.out w9 (reg_below hr9)) Try.underlying33 rfl (by kernel_rfl) ?_; refine hK _ ?_; clear hK K; go_frame)
          quiet_step (first | (go_at_call 19; exact Calls.regrown_of (HWX.out _ (below_regrown _ _ _))))
          (first | go_big_quiet_step (fail) | quiet_step (fail))
          (first | go_big_quiet_step (fail) | quiet_step (fail))
          (first | go_big_quiet_step (fail) | quiet_step (fail))
          (refine wpQuiet_step (fun K hK => ?_); refine quiet_load_at (by kernel_rfl) 29 _ rfl (⟨gn1, 0, none⟩ : Addr) (by first | rfl | (simp [Act.eval, Addr.add_mid])) (rqC (conc y) vDy vAy) _ (fun w9 hr9 => var_all HN.out w9 (reg_below hr9)) Try.underlying29 rfl (by kernel_rfl) ?_; refine hK _ ?_; clear hK K; go_frame)
          quiet_step (first | (go_at_call 20; exact Calls.regrown_of (HEN.out _ (below_regrown _ _ _))))
          (first | go_big_quiet_step (fail) | quiet_step (fail))
          (refine wpQuiet_step (fun K hK => ?_); refine quiet_load_cell (by kernel_rfl) 4 _ rfl ((⟨gn2, 0, none⟩ : Addr).add 4) (by first | rfl | (simp [Act.eval, Addr.add_mid])) (.bool false) _ C4.out Try.underlying4 rfl ?_; refine hK _ ?_; clear hK K; go_frame)
          (first | go_big_quiet_step (fail) | quiet_step (fail))
          (first | go_big_quiet_step (fail) | quiet_step (fail))
          (first | go_big_quiet_step (fail) | quiet_step (fail))
          (first | go_big_quiet_step (fail) | quiet_step (fail))
          (first | go_big_quiet_step (fail) | quiet_step (fail))
          (first | go_big_quiet_step (fail) | quiet_step (fail))
          (first | go_big_quiet_step (fail) | quiet_step (fail))
          refine wpQuiet_nil ?_
          intro w9 hw9
          obtain ⟨⟨dq, osq⟩, rfl⟩ := hw9
          have HB9 := Lib.hid ((Below.refl wc.heap.size wc).trans ((below_regrown wc dq osq).mono (Below.refl wc.heap.size wc).size))
          generalize Sort.grow (redrawn wc dq) osq = w9z at *
          have F6 := Lib.hid (F5.out.call HB9.out)
          clear F5 HB9 HLX HLY HRI HWI HWX HEN C4 C1 HN HY HXX HXQ
          have HN := Lib.hid (F6.out.at (i := 0) rfl)
          have HY := Lib.hid (F6.out.at (i := 1) rfl)
          have HXX := Lib.hid (F6.out.at (i := 3) rfl)
          have HXQ := Lib.hid (F6.out.at (i := 4) rfl)
          have N12 : Hid (g1 ≠ g2) := F6.out.ne (i := 4) (j := 3) rfl rfl (by decide)
          have NN1 : Hid (gn1 ≠ g1) := F6.out.ne (i := 0) (j := 4) rfl rfl (by decide)
          have NN2 : Hid (gn1 ≠ g2) := F6.out.ne (i := 0) (j := 3) rfl rfl (by decide)
          have NY1 : Hid (gn2 ≠ g1) := F6.out.ne (i := 1) (j := 4) rfl rfl (by decide)
          have NY2 : Hid (gn2 ≠ g2) := F6.out.ne (i := 1) (j := 3) rfl rfl (by decide)
          go_upto_region 26 with (fail)
          apply wp_region_relyG [2, 3] (OldT w9z 2 g1 29 (rqC (conc x) vD vA) (rqC (conc y) vDy vAy) 3 g2 33 (rxC x vx) (rxC y vxy)) (RL [Is (.agg (rqC (conc y) vDy vAy)), Is (.agg (rxC y vxy)), Any, Any]) [false, false, false, false, false, false, false, false, false, false, false, false, false, false, false, false, false, false, false, false, false, false, false, false, false, false, false, false, false, false, false, false, false, false, false, false, false, false, false, false, false, false, false, false, false, false, false, false, false, false, false, false, false, false, false, false, false, false, false, false, false, false, false, false, false, false, false, false, false, false, false, false, false, false, false, false, false, false, false, false, false, false, false, false, false, false, false, false, false, false, false, false, false, false, false, false, false, false, false, false, false, false, false, false, false, false, false, false, false, false, false, false, false, false, false, false, false, false, false, false, false, false, false, false, false, false, false, true, true, false, false, false, false, false]
          · kernel_rfl
          · kernel_rfl
          · kernel_rfl
          · refine ⟨?_, ?_, ?_, ?_, trivial⟩
            · intro L ev w' hC hL hx K hK
              have e9 : ev (.tmp 9) = _ := hx.base 9 (by kernel_rfl)
              have HK := Lib.hid hK
              have HC := Lib.hid hC
              have HL := Lib.hid hL
              have HX := Lib.hid hx
              have hc := hx.cst
              skip
              clear hx hK hC hL
              have q1 : ev (.tmp 9) = .pointer (some ⟨gn1, 0, none⟩) := e9
              have hld := run_loadVar_row (P := Try.prog) w' gn1 29 29 (rqC (conc y) vDy vAy) (0, 0) _ (HC.out.keep HN.out NN1.out NN2.out) Try.underlying29 rfl (by kernel_rfl)
              unfold Run
              rw [rely_load 29 _ rfl q1 hld]
              exact HK.out _ _ (.inl ⟨Below.refl _ _, by decide⟩) rfl
            · intro L ev w' hC hL hx K hK
              have e10 : ev (.tmp 10) = _ := hx.base 10 (by kernel_rfl)
              have HK := Lib.hid hK
              have HC := Lib.hid hC
              have HL := Lib.hid hL
              have HX := Lib.hid hx
              have hc := hx.cst
              skip
              clear hx hK hC hL
              have q1 : ev (.tmp 10) = .pointer (some ⟨gn2, 0, none⟩) := e10
              have hld := run_loadVar_row (P := Try.prog) w' gn2 33 33 (rxC y vxy) (0, 0) _ (HC.out.keep HY.out NY1.out NY2.out) Try.underlying33 rfl (by kernel_rfl)
              unfold Run
              rw [rely_load 33 _ rfl q1 hld]
              exact HK.out _ _ (.inl ⟨Below.refl _ _, by decide⟩) rfl
            · intro L ev w' hC hL hx K hK
              have e5 : ev (.tmp 5) = _ := hx.base 5 (by kernel_rfl)
              have e127 := hx.held 0 _ rfl (by kernel_rfl)
              change ev (.tmp 127) = _ at e127
              have HK := Lib.hid hK
              have HC := Lib.hid hC
              have HL := Lib.hid hL
              have HX := Lib.hid hx
              have hc := hx.cst
              skip
              clear hx hK hC hL
              have qv : ev (.tmp 127) = .agg (rqC (conc y) vDy vAy) := e127
              have nst : L 2 = false := HL.out
              have qp : ev (.tmp 5) = .pointer (some ⟨g1, 0, none⟩) := e5
              have hgh := HC.out.old1 nst
              have hnv := HC.out.store1 nst rfl N12.out (by decide)
              have hst := run_storeVar_row (P := Try.prog) w' g1 29 29 (rqC (conc x) vD vA) (rqC (conc y) vDy vAy) hgh (by kernel_rfl) rfl HN1.out
              unfold Run
              rw [rely_store 29 _ _ rfl qp qv hst]
              refine HK.out _ _ (.inr ⟨hnv, fun j hj hlj u hr => ?_⟩) trivial
              rcases j with _ | _ | _ | _ | j
              · exact hr
              · exact hr
              · exact absurd rfl hj
              · exact trivial
              · exact trivial
            · intro L ev w' hC hL hx K hK
              have e6 : ev (.tmp 6) = _ := hx.base 6 (by kernel_rfl)
              have e128 := hx.held 1 _ rfl (by kernel_rfl)
              change ev (.tmp 128) = _ at e128
              have HK := Lib.hid hK
              have HC := Lib.hid hC
              have HL := Lib.hid hL
              have HX := Lib.hid hx
              have hc := hx.cst
              skip
              clear hx hK hC hL
              have qv : ev (.tmp 128) = .agg (rxC y vxy) := e128
              have nst : L 3 = false := HL.out
              have qp : ev (.tmp 6) = .pointer (some ⟨g2, 0, none⟩) := e6
              have hgh := HC.out.old2 nst
              have hnv := HC.out.store2 nst rfl N12.out (by decide)
              have hst := run_storeVar_row (P := Try.prog) w' g2 33 33 (rxC x vx) (rxC y vxy) hgh (by kernel_rfl) rfl HY1.out
              unfold Run
              rw [rely_store 33 _ _ rfl qp qv hst]
              refine HK.out _ _ (.inr ⟨hnv, fun j hj hlj u hr => ?_⟩) trivial
              rcases j with _ | _ | _ | _ | j
              · exact hr
              · exact hr
              · exact trivial
              · exact absurd rfl hj
              · exact trivial
          · exact rl_mono ⟨is_mono _, is_mono _, any_mono, any_mono, trivial⟩
          · exact fun L L' w' h1 hg => hg.agree (h1 2 (by simp)) (h1 3 (by simp))
          · exact fun L w' w'' hb hg => hg.below hb
          · exact OldT.start HXQ.out HXX.out
          · simp
          intro us wr hG hH
          obtain ⟨-, -, -, -, -⟩ := hH
          simp only [fillM]
          obtain ⟨hG9, hvn1, hvn2⟩ := hG
          have HVN1 : Hid (wr.heap[g1]? = some (.cells (rqC (conc y) vDy vAy) 29 (0, 0))) := hvn1
          have HVN2 : Hid (wr.heap[g2]? = some (.cells (rxC y vxy) 33 (0, 0))) := hvn2
          have HG9 := Lib.hid hG9
          clear hG9 hvn1 hvn2
          generalize us 127 = v127
          generalize us 128 = v128
          have F7 := Lib.hid (F6.out.put2 (i := 4) (j := 3) rfl rfl (by decide) HG9.out HVN1.out HVN2.out)
          have F8 : Hid (Frm w _ [(g2, (rxC y vxy), 33), (g1, (rqC (conc y) vDy vAy), 29)] [((rxC y vxy).toList, rxD y), ((rqC (conc y) vDy vAy).toList, rqD (conc y))]) := Lib.hid (F7.out.drop 3 rfl (fun p hp => by simp only [List.mem_cons, List.not_mem_nil, or_false] at hp ⊢; rcases hp with rfl | rfl <;> simp))
          clear F6 F7 HG9 HVN1 HVN2 HN HY HXX HXQ N12 NN1 NN2 NY1 NY2 HN1 HY1
          go_wp2
          go_roundw
          case rel => exact ⟨i + 1, y, vDy, vAy, vxy, by omega, by go_num, HOY, F8⟩
          case measure => simp [intOf]; omega
        · rcases dt with _ | ⟨d0, dt⟩
          · refine wp_region_quiet_below (by kernel_rfl) (by kernel_rfl) ?_
            (refine wpQuiet_step (fun K hK => ?_); refine quiet_load_at (by kernel_rfl) 33 _ rfl (⟨g2, 0, none⟩ : Addr) (by first | rfl | (simp [Act.eval, Addr.add_mid])) (rxC x vx) _ (fun w9 hr9 => var_all HXX.out w9 (reg_below hr9)) Try.underlying33 rfl (by kernel_rfl) ?_; refine hK _ ?_; clear hK K; go_frame)
            (refine wpQuiet_step (fun K hK => ?_); refine quiet_load_at (by kernel_rfl) 29 _ rfl (⟨g1, 0, none⟩ : Addr) (by first | rfl | (simp [Act.eval, Addr.add_mid])) (rqC (conc x) vD vA) _ (fun w9 hr9 => var_all HXQ.out w9 (reg_below hr9)) Try.underlying29 rfl (by kernel_rfl) ?_; refine hK _ ?_; clear hK K; go_frame)
            quiet_step (first | (go_at_call 16; exact Calls.regrown_of (HLX.out _ (below_regrown _ _ _))))
            (first | go_big_quiet_step (fail) | quiet_step (fail))
            (first | go_big_quiet_step (fail) | quiet_step (fail))
            (refine wpQuiet_step (fun K hK => ?_); refine quiet_load_at (by kernel_rfl) 33 _ rfl (⟨gn2, 0, none⟩ : Addr) (by first | rfl | (simp [Act.eval, Addr.add_mid])) (rxC y vxy) _ (fun w9 hr9 => var_all HY.out w9 (reg_below hr9)) Try.underlying33 rfl (by kernel_rfl) ?_; refine hK _ ?_; clear hK K; go_frame)
            (refine wpQuiet_step (fun K hK => ?_); refine quiet_load_at (by kernel_rfl) 29 _ rfl (⟨gn1, 0, none⟩ : Addr) (by first | rfl | (simp [Act.eval, Addr.add_mid])) (rqC (conc y) vDy vAy) _ (fun w9 hr9 => var_all HN.out w9 (reg_below hr9)) Try.underlying29 rfl (by kernel_rfl) ?_; refine hK _ ?_; clear hK K; go_frame)
            quiet_step (first | (go_at_call 16; exact Calls.regrown_of (HLY.out _ (below_regrown _ _ _))))
            (first | go_big_quiet_step (fail) | quiet_step (fail))
            (first | go_big_quiet_step (fail) | quiet_step (fail))
            (first | go_big_quiet_step (fail) | quiet_step (fail))
            (refine wpQuiet_step (fun K hK => ?_); refine quiet_load_at (by kernel_rfl) 29 _ rfl (⟨gn1, 0, none⟩ : Addr) (by first | rfl | (simp [Act.eval, Addr.add_mid])) (rqC (conc y) vDy vAy) _ (fun w9 hr9 => var_all HN.out w9 (reg_below hr9)) Try.underlying29 rfl (by kernel_rfl) ?_; refine hK _ ?_; clear hK K; go_frame)
            quiet_step (first | (go_at_call 17; exact Calls.regrown_of (HRI.out _ (below_regrown _ _ _))))
            (first | go_big_quiet_step (fail) | quiet_step (fail))
            (first | go_big_quiet_step (fail) | quiet_step (fail))
            (first | go_big_quiet_step (fail) | quiet_step (fail))
            (refine wpQuiet_step (fun K hK => ?_); refine quiet_load_at (by kernel_rfl) 29 _ rfl (⟨gn1, 0, none⟩ : Addr) (by first | rfl | (simp [Act.eval, Addr.add_mid])) (rqC (conc y) vDy vAy) _ (fun w9 hr9 => var_all HN.out w9 (reg_below hr9)) Try.underlying29 rfl (by kernel_rfl) ?_; refine hK _ ?_; clear hK K; go_frame)
            quiet_step (first | (go_at_call 18; exact Calls.regrown_of (HWI.out _ (below_regrown _ _ _))))
            (refine wpQuiet_step (fun K hK => ?_); refine quiet_load_at (by kernel_rfl) 33 _ rfl (⟨gn2, 0, none⟩ : Addr) (by first | rfl | (simp [Act.eval, Addr.add_mid])) (rxC y vxy) _ (fun w9 hr9 => var_all HY.out w9 (reg_below hr9)) Try.underlying33 rfl (by kernel_rfl) ?_; refine hK _ ?_; clear hK K; go_frame)
            quiet_step (first | (go_at_call 19; exact Calls.regrown_of (HWX.out _ (below_regrown _ _ _))))
            (first | go_big_quiet_step (fail) | quiet_step (fail))
            (first | go_big_quiet_step (fail) | quiet_step (fail))
            (first | go_big_quiet_step (fail) | quiet_step (fail))
            (refine wpQuiet_step (fun K hK => ?_); refine quiet_load_at (by kernel_rfl) 29 _ rfl (⟨gn1, 0, none⟩ : Addr) (by first | rfl | (simp [Act.eval, Addr.add_mid])) (rqC (conc y) vDy vAy) _ (fun w9 hr9 => var_all HN.out w9 (reg_below hr9)) Try.underlying29 rfl (by kernel_rfl) ?_; refine hK _ ?_; clear hK K; go_frame)
            quiet_step (first | (go_at_call 20; exact Calls.regrown_of (HEN.out _ (below_regrown _ _ _))))
            (first | go_big_quiet_step (fail) | quiet_step (fail))
            (refine wpQuiet_step (fun K hK => ?_); refine quiet_load_cell (by kernel_rfl) 4 _ rfl ((⟨gn2, 0, none⟩ : Addr).add 4) (by first | rfl | (simp [Act.eval, Addr.add_mid])) (.bool true) _ C4.out Try.underlying4 rfl ?_; refine hK _ ?_; clear hK K; go_frame)
            (first | go_big_quiet_step (fail) | quiet_step (fail))
            (first | go_big_quiet_step (fail) | quiet_step (fail))
            (refine wpQuiet_step (fun K hK => ?_); refine quiet_load_cell (by kernel_rfl) 9 _ rfl ((⟨gn2, 0, none⟩ : Addr).add 1) (by first | rfl | (simp [Act.eval, Addr.add_mid])) (.string ⟨(([] : List UInt8)).toArray⟩) _ C1.out Try.underlying9 rfl ?_; refine hK _ ?_; clear hK K; go_frame)
            (first | go_big_quiet_step (fail) | quiet_step (fail))
            (first | go_big_quiet_step (fail) | quiet_step (fail))
            (first | go_big_quiet_step (fail) | quiet_step (fail))
            (first | go_big_quiet_step (fail) | quiet_step (fail))
            refine wpQuiet_nil ?_
            intro w9 hw9
            obtain ⟨⟨dq, osq⟩, rfl⟩ := hw9
            have HB9 := Lib.hid ((Below.refl wc.heap.size wc).trans ((below_regrown wc dq osq).mono (Below.refl wc.heap.size wc).size))
            generalize Sort.grow (redrawn wc dq) osq = w9z at *
            have F6 := Lib.hid (F5.out.call HB9.out)
            clear F5 HB9 HLX HLY HRI HWI HWX HEN C4 C1 HN HY HXX HXQ
            have HN := Lib.hid (F6.out.at (i := 0) rfl)
            have HY := Lib.hid (F6.out.at (i := 1) rfl)
            have HXX := Lib.hid (F6.out.at (i := 3) rfl)
            have HXQ := Lib.hid (F6.out.at (i := 4) rfl)
            have N12 : Hid (g1 ≠ g2) := F6.out.ne (i := 4) (j := 3) rfl rfl (by decide)
            have NN1 : Hid (gn1 ≠ g1) := F6.out.ne (i := 0) (j := 4) rfl rfl (by decide)
            have NN2 : Hid (gn1 ≠ g2) := F6.out.ne (i := 0) (j := 3) rfl rfl (by decide)
            have NY1 : Hid (gn2 ≠ g1) := F6.out.ne (i := 1) (j := 4) rfl rfl (by decide)
            have NY2 : Hid (gn2 ≠ g2) := F6.out.ne (i := 1) (j := 3) rfl rfl (by decide)
            go_upto_region 26 with (fail)
            apply wp_region_relyG [2, 3] (OldT w9z 2 g1 29 (rqC (conc x) vD vA) (rqC (conc y) vDy vAy) 3 g2 33 (rxC x vx) (rxC y vxy)) (RL [Is (.agg (rqC (conc y) vDy vAy)), Is (.agg (rxC y vxy)), Any, Any]) [false, false, false, false, false, false, false, false, false, false, false, false, false, false, false, false, false, false, false, false, false, false, false, false, false, false, false, false, false, false, false, false, false, false, false, false, false, false, false, false, false, false, false, false, false, false, false, false, false, false, false, false, false, false, false, false, false, false, false, false, false, false, false, false, false, false, false, false, false, false, false, false, false, false, false, false, false, false, false, false, false, false, false, false, false, false, false, false, false, false, false, false, false, false, false, false, false, false, false, false, false, false, false, false, false, false, false, false, false, false, false, false, false, false, false, false, false, false, false, false, false, false, false, false, false, false, false, true, true, false, false, false, false, false]
            · kernel_rfl
            · kernel_rfl
            · kernel_rfl
            · refine ⟨?_, ?_, ?_, ?_, trivial⟩
              · intro L ev w' hC hL hx K hK
                have e9 : ev (.tmp 9) = _ := hx.base 9 (by kernel_rfl)
                have HK := Lib.hid hK
                have HC := Lib.hid hC
                have HL := Lib.hid hL
                have HX := Lib.hid hx
                have hc := hx.cst
                skip
                clear hx hK hC hL
                have q1 : ev (.tmp 9) = .pointer (some ⟨gn1, 0, none⟩) := e9
                have hld := run_loadVar_row (P := Try.prog) w' gn1 29 29 (rqC (conc y) vDy vAy) (0, 0) _ (HC.out.keep HN.out NN1.out NN2.out) Try.underlying29 rfl (by kernel_rfl)
                unfold Run
                rw [rely_load 29 _ rfl q1 hld]
                exact HK.out _ _ (.inl ⟨Below.refl _ _, by decide⟩) rfl
              · intro L ev w' hC hL hx K hK
                have e10 : ev (.tmp 10) = _ := hx.base 10 (by kernel_rfl)
                have HK := Lib.hid hK
                have HC := Lib.hid hC
                have HL := Lib.hid hL
                have HX := Lib.hid hx
                have hc := hx.cst
                skip
                clear hx hK hC hL
                have q1 : ev (.tmp 10) = .pointer (some ⟨gn2, 0, none⟩) := e10
                have hld := run_loadVar_row (P := Try.prog) w' gn2 33 33 (rxC y vxy) (0, 0) _ (HC.out.keep HY.out NY1.out NY2.out) Try.underlying33 rfl (by kernel_rfl)
                unfold Run
                rw [rely_load 33 _ rfl q1 hld]
                exact HK.out _ _ (.inl ⟨Below.refl _ _, by decide⟩) rfl
              · intro L ev w' hC hL hx K hK
                have e5 : ev (.tmp 5) = _ := hx.base 5 (by kernel_rfl)
                have e127 := hx.held 0 _ rfl (by kernel_rfl)
                change ev (.tmp 127) = _ at e127
                have HK := Lib.hid hK
                have HC := Lib.hid hC
                have HL := Lib.hid hL
                have HX := Lib.hid hx
                have hc := hx.cst
                skip
                clear hx hK hC hL
                have qv : ev (.tmp 127) = .agg (rqC (conc y) vDy vAy) := e127
                have nst : L 2 = false := HL.out
                have qp : ev (.tmp 5) = .pointer (some ⟨g1, 0, none⟩) := e5
                have hgh := HC.out.old1 nst
                have hnv := HC.out.store1 nst rfl N12.out (by decide)
                have hst := run_storeVar_row (P := Try.prog) w' g1 29 29 (rqC (conc x) vD vA) (rqC (conc y) vDy vAy) hgh (by kernel_rfl) rfl HN1.out
                unfold Run
                rw [rely_store 29 _ _ rfl qp qv hst]
                refine HK.out _ _ (.inr ⟨hnv, fun j hj hlj u hr => ?_⟩) trivial
                rcases j with _ | _ | _ | _ | j
                · exact hr
                · exact hr
                · exact absurd rfl hj
                · exact trivial
                · exact trivial
              · intro L ev w' hC hL hx K hK
                have e6 : ev (.tmp 6) = _ := hx.base 6 (by kernel_rfl)
                have e128 := hx.held 1 _ rfl (by kernel_rfl)
                change ev (.tmp 128) = _ at e128
                have HK := Lib.hid hK
                have HC := Lib.hid hC
                have HL := Lib.hid hL
                have HX := Lib.hid hx
                have hc := hx.cst
                skip
                clear hx hK hC hL
                have qv : ev (.tmp 128) = .agg (rxC y vxy) := e128
                have nst : L 3 = false := HL.out
                have qp : ev (.tmp 6) = .pointer (some ⟨g2, 0, none⟩) := e6
                have hgh := HC.out.old2 nst
                have hnv := HC.out.store2 nst rfl N12.out (by decide)
                have hst := run_storeVar_row (P := Try.prog) w' g2 33 33 (rxC x vx) (rxC y vxy) hgh (by kernel_rfl) rfl HY1.out
                unfold Run
                rw [rely_store 33 _ _ rfl qp qv hst]
                refine HK.out _ _ (.inr ⟨hnv, fun j hj hlj u hr => ?_⟩) trivial
                rcases j with _ | _ | _ | _ | j
                · exact hr
                · exact hr
                · exact trivial
                · exact absurd rfl hj
                · exact trivial
            · exact rl_mono ⟨is_mono _, is_mono _, any_mono, any_mono, trivial⟩
            · exact fun L L' w' h1 hg => hg.agree (h1 2 (by simp)) (h1 3 (by simp))
            · exact fun L w' w'' hb hg => hg.below hb
            · exact OldT.start HXQ.out HXX.out
            · simp
            intro us wr hG hH
            obtain ⟨-, -, -, -, -⟩ := hH
            simp only [fillM]
            obtain ⟨hG9, hvn1, hvn2⟩ := hG
            have HVN1 : Hid (wr.heap[g1]? = some (.cells (rqC (conc y) vDy vAy) 29 (0, 0))) := hvn1
            have HVN2 : Hid (wr.heap[g2]? = some (.cells (rxC y vxy) 33 (0, 0))) := hvn2
            have HG9 := Lib.hid hG9
            clear hG9 hvn1 hvn2
            generalize us 127 = v127
            generalize us 128 = v128
            have F7 := Lib.hid (F6.out.put2 (i := 4) (j := 3) rfl rfl (by decide) HG9.out HVN1.out HVN2.out)
            have F8 : Hid (Frm w _ [(g2, (rxC y vxy), 33), (g1, (rqC (conc y) vDy vAy), 29)] [((rxC y vxy).toList, rxD y), ((rqC (conc y) vDy vAy).toList, rqD (conc y))]) := Lib.hid (F7.out.drop 3 rfl (fun p hp => by simp only [List.mem_cons, List.not_mem_nil, or_false] at hp ⊢; rcases hp with rfl | rfl <;> simp))
            clear F6 F7 HG9 HVN1 HVN2 HN HY HXX HXQ N12 NN1 NN2 NY1 NY2 HN1 HY1
            go_wp2
            go_roundw
            case rel => exact ⟨i + 1, y, vDy, vAy, vxy, by omega, by go_num, HOY, F8⟩
            case measure => simp [intOf]; omega
          · refine wp_region_quiet_below (by kernel_rfl) (by kernel_rfl) ?_
            (refine wpQuiet_step (fun K hK => ?_); refine quiet_load_at (by kernel_rfl) 33 _ rfl (⟨g2, 0, none⟩ : Addr) (by first | rfl | (simp [Act.eval, Addr.add_mid])) (rxC x vx) _ (fun w9 hr9 => var_all HXX.out w9 (reg_below hr9)) Try.underlying33 rfl (by kernel_rfl) ?_; refine hK _ ?_; clear hK K; go_frame)
            (refine wpQuiet_step (fun K hK => ?_); refine quiet_load_at (by kernel_rfl) 29 _ rfl (⟨g1, 0, none⟩ : Addr) (by first | rfl | (simp [Act.eval, Addr.add_mid])) (rqC (conc x) vD vA) _ (fun w9 hr9 => var_all HXQ.out w9 (reg_below hr9)) Try.underlying29 rfl (by kernel_rfl) ?_; refine hK _ ?_; clear hK K; go_frame)
            quiet_step (first | (go_at_call 16; exact Calls.regrown_of (HLX.out _ (below_regrown _ _ _))))
            (first | go_big_quiet_step (fail) | quiet_step (fail))
            (first | go_big_quiet_step (fail) | quiet_step (fail))
            (refine wpQuiet_step (fun K hK => ?_); refine quiet_load_at (by kernel_rfl) 33 _ rfl (⟨gn2, 0, none⟩ : Addr) (by first | rfl | (simp [Act.eval, Addr.add_mid])) (rxC y vxy) _ (fun w9 hr9 => var_all HY.out w9 (reg_below hr9)) Try.underlying33 rfl (by kernel_rfl) ?_; refine hK _ ?_; clear hK K; go_frame)
            (refine wpQuiet_step (fun K hK => ?_); refine quiet_load_at (by kernel_rfl) 29 _ rfl (⟨gn1, 0, none⟩ : Addr) (by first | rfl | (simp [Act.eval, Addr.add_mid])) (rqC (conc y) vDy vAy) _ (fun w9 hr9 => var_all HN.out w9 (reg_below hr9)) Try.underlying29 rfl (by kernel_rfl) ?_; refine hK _ ?_; clear hK K; go_frame)
            quiet_step (first | (go_at_call 16; exact Calls.regrown_of (HLY.out _ (below_regrown _ _ _))))
            (first | go_big_quiet_step (fail) | quiet_step (fail))
            (first | go_big_quiet_step (fail) | quiet_step (fail))
            (first | go_big_quiet_step (fail) | quiet_step (fail))
            (refine wpQuiet_step (fun K hK => ?_); refine quiet_load_at (by kernel_rfl) 29 _ rfl (⟨gn1, 0, none⟩ : Addr) (by first | rfl | (simp [Act.eval, Addr.add_mid])) (rqC (conc y) vDy vAy) _ (fun w9 hr9 => var_all HN.out w9 (reg_below hr9)) Try.underlying29 rfl (by kernel_rfl) ?_; refine hK _ ?_; clear hK K; go_frame)
            quiet_step (first | (go_at_call 17; exact Calls.regrown_of (HRI.out _ (below_regrown _ _ _))))
            (first | go_big_quiet_step (fail) | quiet_step (fail))
            (first | go_big_quiet_step (fail) | quiet_step (fail))
            (first | go_big_quiet_step (fail) | quiet_step (fail))
            (refine wpQuiet_step (fun K hK => ?_); refine quiet_load_at (by kernel_rfl) 29 _ rfl (⟨gn1, 0, none⟩ : Addr) (by first | rfl | (simp [Act.eval, Addr.add_mid])) (rqC (conc y) vDy vAy) _ (fun w9 hr9 => var_all HN.out w9 (reg_below hr9)) Try.underlying29 rfl (by kernel_rfl) ?_; refine hK _ ?_; clear hK K; go_frame)
            quiet_step (first | (go_at_call 18; exact Calls.regrown_of (HWI.out _ (below_regrown _ _ _))))
            (refine wpQuiet_step (fun K hK => ?_); refine quiet_load_at (by kernel_rfl) 33 _ rfl (⟨gn2, 0, none⟩ : Addr) (by first | rfl | (simp [Act.eval, Addr.add_mid])) (rxC y vxy) _ (fun w9 hr9 => var_all HY.out w9 (reg_below hr9)) Try.underlying33 rfl (by kernel_rfl) ?_; refine hK _ ?_; clear hK K; go_frame)
            quiet_step (first | (go_at_call 19; exact Calls.regrown_of (HWX.out _ (below_regrown _ _ _))))
            (first | go_big_quiet_step (fail) | quiet_step (fail))
            (first | go_big_quiet_step (fail) | quiet_step (fail))
            (first | go_big_quiet_step (fail) | quiet_step (fail))
            (refine wpQuiet_step (fun K hK => ?_); refine quiet_load_at (by kernel_rfl) 29 _ rfl (⟨gn1, 0, none⟩ : Addr) (by first | rfl | (simp [Act.eval, Addr.add_mid])) (rqC (conc y) vDy vAy) _ (fun w9 hr9 => var_all HN.out w9 (reg_below hr9)) Try.underlying29 rfl (by kernel_rfl) ?_; refine hK _ ?_; clear hK K; go_frame)
            quiet_step (first | (go_at_call 20; exact Calls.regrown_of (HEN.out _ (below_regrown _ _ _))))
            (first | go_big_quiet_step (fail) | quiet_step (fail))
            (refine wpQuiet_step (fun K hK => ?_); refine quiet_load_cell (by kernel_rfl) 4 _ rfl ((⟨gn2, 0, none⟩ : Addr).add 4) (by first | rfl | (simp [Act.eval, Addr.add_mid])) (.bool true) _ C4.out Try.underlying4 rfl ?_; refine hK _ ?_; clear hK K; go_frame)
            (first | go_big_quiet_step (fail) | quiet_step (fail))
            (first | go_big_quiet_step (fail) | quiet_step (fail))
            (refine wpQuiet_step (fun K hK => ?_); refine quiet_load_cell (by kernel_rfl) 9 _ rfl ((⟨gn2, 0, none⟩ : Addr).add 1) (by first | rfl | (simp [Act.eval, Addr.add_mid])) (.string ⟨(d0 :: dt).toArray⟩) _ C1.out Try.underlying9 rfl ?_; refine hK _ ?_; clear hK K; go_frame)
            (first | go_big_quiet_step (fail) | quiet_step (fail))
            (first | go_big_quiet_step (fail) | quiet_step (fail))
            (first | go_big_quiet_step (fail) | quiet_step (fail))
            (first | go_big_quiet_step (fail) | quiet_step (fail))
            refine wpQuiet_nil ?_
            intro w9 hw9
            obtain ⟨⟨dq, osq⟩, rfl⟩ := hw9
            have HB9 := Lib.hid ((Below.refl wc.heap.size wc).trans ((below_regrown wc dq osq).mono (Below.refl wc.heap.size wc).size))
            generalize Sort.grow (redrawn wc dq) osq = w9z at *
            have F6 := Lib.hid (F5.out.call HB9.out)
            clear F5 HB9 HLX HLY HRI HWI HWX HEN C4 C1 HN HY HXX HXQ
            have HN := Lib.hid (F6.out.at (i := 0) rfl)
            have HY := Lib.hid (F6.out.at (i := 1) rfl)
            have HXX := Lib.hid (F6.out.at (i := 3) rfl)
            have HXQ := Lib.hid (F6.out.at (i := 4) rfl)
            have N12 : Hid (g1 ≠ g2) := F6.out.ne (i := 4) (j := 3) rfl rfl (by decide)
            have NN1 : Hid (gn1 ≠ g1) := F6.out.ne (i := 0) (j := 4) rfl rfl (by decide)
            have NN2 : Hid (gn1 ≠ g2) := F6.out.ne (i := 0) (j := 3) rfl rfl (by decide)
            have NY1 : Hid (gn2 ≠ g1) := F6.out.ne (i := 1) (j := 4) rfl rfl (by decide)
            have NY2 : Hid (gn2 ≠ g2) := F6.out.ne (i := 1) (j := 3) rfl rfl (by decide)
            go_upto_region 26 with (fail)
            apply wp_region_relyG [2, 3] (OldT w9z 2 g1 29 (rqC (conc x) vD vA) (rqC (conc y) vDy vAy) 3 g2 33 (rxC x vx) (rxC y vxy)) (RL [Is (.agg (rqC (conc y) vDy vAy)), Is (.agg (rxC y vxy)), Any, Any]) [false, false, false, false, false, false, false, false, false, false, false, false, false, false, false, false, false, false, false, false, false, false, false, false, false, false, false, false, false, false, false, false, false, false, false, false, false, false, false, false, false, false, false, false, false, false, false, false, false, false, false, false, false, false, false, false, false, false, false, false, false, false, false, false, false, false, false, false, false, false, false, false, false, false, false, false, false, false, false, false, false, false, false, false, false, false, false, false, false, false, false, false, false, false, false, false, false, false, false, false, false, false, false, false, false, false, false, false, false, false, false, false, false, false, false, false, false, false, false, false, false, false, false, false, false, false, false, true, true, false, false, false, false, false]
            · kernel_rfl
            · kernel_rfl
            · kernel_rfl
            · refine ⟨?_, ?_, ?_, ?_, trivial⟩
              · intro L ev w' hC hL hx K hK
                have e9 : ev (.tmp 9) = _ := hx.base 9 (by kernel_rfl)
                have HK := Lib.hid hK
                have HC := Lib.hid hC
                have HL := Lib.hid hL
                have HX := Lib.hid hx
                have hc := hx.cst
                skip
                clear hx hK hC hL
                have q1 : ev (.tmp 9) = .pointer (some ⟨gn1, 0, none⟩) := e9
                have hld := run_loadVar_row (P := Try.prog) w' gn1 29 29 (rqC (conc y) vDy vAy) (0, 0) _ (HC.out.keep HN.out NN1.out NN2.out) Try.underlying29 rfl (by kernel_rfl)
                unfold Run
                rw [rely_load 29 _ rfl q1 hld]
                exact HK.out _ _ (.inl ⟨Below.refl _ _, by decide⟩) rfl
              · intro L ev w' hC hL hx K hK
                have e10 : ev (.tmp 10) = _ := hx.base 10 (by kernel_rfl)
                have HK := Lib.hid hK
                have HC := Lib.hid hC
                have HL := Lib.hid hL
                have HX := Lib.hid hx
                have hc := hx.cst
                skip
                clear hx hK hC hL
                have q1 : ev (.tmp 10) = .pointer (some ⟨gn2, 0, none⟩) := e10
                have hld := run_loadVar_row (P := Try.prog) w' gn2 33 33 (rxC y vxy) (0, 0) _ (HC.out.keep HY.out NY1.out NY2.out) Try.underlying33 rfl (by kernel_rfl)
                unfold Run
                rw [rely_load 33 _ rfl q1 hld]
                exact HK.out _ _ (.inl ⟨Below.refl _ _, by decide⟩) rfl
              · intro L ev w' hC hL hx K hK
                have e5 : ev (.tmp 5) = _ := hx.base 5 (by kernel_rfl)
                have e127 := hx.held 0 _ rfl (by kernel_rfl)
                change ev (.tmp 127) = _ at e127
                have HK := Lib.hid hK
                have HC := Lib.hid hC
                have HL := Lib.hid hL
                have HX := Lib.hid hx
                have hc := hx.cst
                skip
                clear hx hK hC hL
                have qv : ev (.tmp 127) = .agg (rqC (conc y) vDy vAy) := e127
                have nst : L 2 = false := HL.out
                have qp : ev (.tmp 5) = .pointer (some ⟨g1, 0, none⟩) := e5
                have hgh := HC.out.old1 nst
                have hnv := HC.out.store1 nst rfl N12.out (by decide)
                have hst := run_storeVar_row (P := Try.prog) w' g1 29 29 (rqC (conc x) vD vA) (rqC (conc y) vDy vAy) hgh (by kernel_rfl) rfl HN1.out
                unfold Run
                rw [rely_store 29 _ _ rfl qp qv hst]
                refine HK.out _ _ (.inr ⟨hnv, fun j hj hlj u hr => ?_⟩) trivial
                rcases j with _ | _ | _ | _ | j
                · exact hr
                · exact hr
                · exact absurd rfl hj
                · exact trivial
                · exact trivial
              · intro L ev w' hC hL hx K hK
                have e6 : ev (.tmp 6) = _ := hx.base 6 (by kernel_rfl)
                have e128 := hx.held 1 _ rfl (by kernel_rfl)
                change ev (.tmp 128) = _ at e128
                have HK := Lib.hid hK
                have HC := Lib.hid hC
                have HL := Lib.hid hL
                have HX := Lib.hid hx
                have hc := hx.cst
                skip
                clear hx hK hC hL
                have qv : ev (.tmp 128) = .agg (rxC y vxy) := e128
                have nst : L 3 = false := HL.out
                have qp : ev (.tmp 6) = .pointer (some ⟨g2, 0, none⟩) := e6
                have hgh := HC.out.old2 nst
                have hnv := HC.out.store2 nst rfl N12.out (by decide)
                have hst := run_storeVar_row (P := Try.prog) w' g2 33 33 (rxC x vx) (rxC y vxy) hgh (by kernel_rfl) rfl HY1.out
                unfold Run
                rw [rely_store 33 _ _ rfl qp qv hst]
                refine HK.out _ _ (.inr ⟨hnv, fun j hj hlj u hr => ?_⟩) trivial
                rcases j with _ | _ | _ | _ | j
                · exact hr
                · exact hr
                · exact trivial
                · exact absurd rfl hj
                · exact trivial
            · exact rl_mono ⟨is_mono _, is_mono _, any_mono, any_mono, trivial⟩
            · exact fun L L' w' h1 hg => hg.agree (h1 2 (by simp)) (h1 3 (by simp))
            · exact fun L w' w'' hb hg => hg.below hb
            · exact OldT.start HXQ.out HXX.out
            · simp
            intro us wr hG hH
            obtain ⟨-, -, -, -, -⟩ := hH
            simp only [fillM]
            obtain ⟨hG9, hvn1, hvn2⟩ := hG
            have HVN1 : Hid (wr.heap[g1]? = some (.cells (rqC (conc y) vDy vAy) 29 (0, 0))) := hvn1
            have HVN2 : Hid (wr.heap[g2]? = some (.cells (rxC y vxy) 33 (0, 0))) := hvn2
            have HG9 := Lib.hid hG9
            clear hG9 hvn1 hvn2
            generalize us 127 = v127
            generalize us 128 = v128
            have F7 := Lib.hid (F6.out.put2 (i := 4) (j := 3) rfl rfl (by decide) HG9.out HVN1.out HVN2.out)
            have F8 : Hid (Frm w _ [(g2, (rxC y vxy), 33), (g1, (rqC (conc y) vDy vAy), 29)] [((rxC y vxy).toList, rxD y), ((rqC (conc y) vDy vAy).toList, rqD (conc y))]) := Lib.hid (F7.out.drop 3 rfl (fun p hp => by simp only [List.mem_cons, List.not_mem_nil, or_false] at hp ⊢; rcases hp with rfl | rfl <;> simp))
            clear F6 F7 HG9 HVN1 HVN2 HN HY HXX HXQ N12 NN1 NN2 NY1 NY2 HN1 HY1
            go_wp2
            go_roundw
            case rel => exact ⟨i + 1, y, vDy, vAy, vxy, by omega, by go_num, HOY, F8⟩
            case measure => simp [intOf]; omega
    · obtain rfl : i = m := by omega
      rename World => wr0
      have HXX := Lib.hid (F1.out.at (i := 0) rfl)
      have HXQ := Lib.hid (F1.out.at (i := 1) rfl)
      have HCL := Lib.hid (fun w9 (hb : Below wr0.heap.size wr0 w9) => clone_any x _ _ w9 (rvs_call (F1.out.val (i := 1) rfl) hb) HOX.out)
      have HLK := Lib.hid (fun w9 (hb : Below wr0.heap.size wr0 w9) ds (hd : Rvs w9 (fun _ => True) ds.toList (rqD (conc x))) => like_any x (rxC x vx) ds _ _ w9 (rvs_call (F1.out.val (i := 0) rfl) hb) hd HOX.out)
      have HBF := Lib.hid F1.out.below
      clear F1
      go_upto_region 28 with (fail)
      apply wp_region_rely (fun _ => False) (RL [Is (.agg (rxC x vx)), Is (.agg (rqC (conc x) vD vA)), ClP (conc x), Is (.bool true), Is _]) [false, false, false, false, true, false, false, false, false, false, false, false, false, false, false, false, false, false, false, false, false, false, false, false, false, false, false, false, false, false, false, false, false, false, false, false, false, false, false, false, false, false, false, false, false, false, false, false, false, false, false, false, false, false, false, false, false, false, false, false, false, false, false, false, false, false, false, false, false, false, false, false, false, false, false, false, false, false, false, false, false, false, false, false, false, false, false, false, false, false, false, false, false, false, false, false, false, false, false, false, false, false, false, false, false, false, false, false, false, false, false, false, false, false, false, false, false, false, false, false, false, false, false, false, false, false, false, false, false, false, true, true, true, true]
      · kernel_rfl
      · kernel_rfl
      · kernel_rfl
      · refine ⟨?_, ?_, ?_, ?_, ?_, trivial⟩
        · intro ev w' hC hc hf hb hr K hK
          have e6 : ev (.tmp 6) = _ := hb 6 (by kernel_rfl)
          have HK := Lib.hid hK
          have HC := Lib.hid hC
          clear hb hr hK hC hf
          have HBW : Below wr0.heap.size wr0 w' := HC.out.below (fun _ h => h.elim) (Nat.le_refl _)
          have q1 : ev (.tmp 6) = .pointer (some ⟨g2, 0, none⟩) := e6
          have hld := run_loadVar_row (P := Try.prog) w' g2 33 33 (rxC x vx) (0, 0) _ (old_below HXX.out HBW (row_lt HXX.out)) Try.underlying33 rfl (by kernel_rfl)
          unfold Run
          rw [rely_load 33 _ rfl q1 hld]
          exact HK.out _ _ (.inl (Below.refl _ _)) rfl
        · intro ev w' hC hc hf hb hr K hK
          have e5 : ev (.tmp 5) = _ := hb 5 (by kernel_rfl)
          have HK := Lib.hid hK
          have HC := Lib.hid hC
          clear hb hr hK hC hf
          have HBW : Below wr0.heap.size wr0 w' := HC.out.below (fun _ h => h.elim) (Nat.le_refl _)
          have q1 : ev (.tmp 5) = .pointer (some ⟨g1, 0, none⟩) := e5
          have hld := run_loadVar_row (P := Try.prog) w' g1 29 29 (rqC (conc x) vD vA) (0, 0) _ (old_below HXQ.out HBW (row_lt HXQ.out)) Try.underlying29 rfl (by kernel_rfl)
          unfold Run
          rw [rely_load 29 _ rfl q1 hld]
          exact HK.out _ _ (.inl (Below.refl _ _)) rfl
        · intro ev w' hC hc hf hb hr K hK
          have e131 := hr 1 _ rfl (by kernel_rfl)
          change ev (.tmp 131) = _ at e131
          have HK := Lib.hid hK
          have HC := Lib.hid hC
          clear hb hr hK hC
          have HBW : Below wr0.heap.size wr0 w' := HC.out.below (fun _ h => h.elim) (Nat.le_refl _)
          unfold Run
          simp [execOp, Upon, go_sem, *]
          refine (HCL.out w' HBW).mono ?_
          rintro e w2 ⟨cs', rfl, hr, hb⟩
          exact ⟨_, rfl, HK.out _ _ (.inl hb) ⟨cs', rfl, hr.wide (fun _ _ => trivial)⟩⟩
        · intro ev w' hC hc hf hb hr K hK
          have e130 := hr 0 _ rfl (by kernel_rfl)
          have e132 := hr 2 _ rfl (by kernel_rfl)
          change ev (.tmp 130) = _ at e130
          change (ClP (conc x) : Pred) (ev (.tmp 132)) _ at e132
          have HK := Lib.hid hK
          have HC := Lib.hid hC
          clear hb hr hK hC
          have HBW : Below wr0.heap.size wr0 w' := HC.out.below (fun _ h => h.elim) (Nat.le_refl _)
          obtain ⟨ds, hd, hr⟩ := e132
          unfold Run
          simp [execOp, Upon, go_sem, *]
          refine (HLK.out w' HBW ds hr).mono ?_
          rintro e w2 ⟨rfl, hb⟩
          exact ⟨_, rfl, HK.out _ _ (.inl hb) rfl⟩
        · intro ev w' hC hc hf hb hr K hK
          have e133 := hr 3 _ rfl (by kernel_rfl)
          change ev (.tmp 133) = _ at e133
          have HK := Lib.hid hK
          have HC := Lib.hid hC
          clear hb hr hK hC hf
          unfold Run
          simp [execOp, Upon, go_sem, *]
          exact HK.out _ _ (.inl (Below.refl _ _)) rfl
      · exact rl_mono ⟨is_mono _, is_mono _, clp_mono _, is_mono _, is_mono _, trivial⟩
      intro us wr hG hH
      obtain ⟨-, -, -, -, h4, -⟩ := hH
      simp only [fillM]
      change us 4 = _ at h4
      rw [h4]
      clear h4
      generalize us 130 = v130
      generalize us 131 = v131
      generalize us 132 = v132
      generalize us 133 = v133
      have HBE := Lib.hid (HBF.out.trans (hG.below (fun _ h => h.elim) HBF.out.size))
      go_wp2
      go_ret
      exact ⟨rfl, HBE.out⟩
end Go.Proofs.Ytdgfhcojmfgimaa
