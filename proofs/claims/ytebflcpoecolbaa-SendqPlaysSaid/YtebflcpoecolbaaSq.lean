/-
  The law SendqPlays: every number, every slice of acts.
-/
import Derived.Test.YtebflcpoecolbaaSp
namespace Go.Proofs.Ytebflcpoecolbaa
open Go.RowKit

theorem data_len {x : Sx} (_h : OkS x) : ((concS x).data.length = 0 ↔ x.all.length ≤ x.acked) := by
  have h1 : (concS x).data.length = x.all.length - fromS x := by show (x.all.drop (fromS x)).length = _; rw [List.length_drop]
  rw [h1]
  unfold fromS
  omega
theorem zero_sx (n : Int) : (#[.int .u32 n, .string ⟨#[]⟩, .int .i64 0, .int .i64 0, .bool false, .bool false] : Array Value) = sxC (newS n) := rfl
set_option maxRecDepth 100000 in
set_option maxHeartbeats 40000000 in
theorem plays_any (n : Int) (v : Value) (l : List Op18) (w : World) (hn : U32 n) (hv : Rv w (Lt w.heap.size) v (rowsD 4 op18D l)) (hO : ∀ o ∈ l, ok18 o) (hl : l.length ≤ 140737488351232) :
    Calls Try.prog 3 #[.int .u32 n, v] w fun e w' => e = .returned (.bool true) ∧ Below w.heap.size w w' := by
  have HRV := Lib.hid hv
  have HNN := Lib.hid hn
  have HO := Lib.hid hO
  obtain ⟨A, c, rfl, hnc, hcm, hel⟩ := op_at hv
  have HEL := Lib.hid hel
  obtain ⟨m, hm⟩ : ∃ m, l.length = m := ⟨_, rfl⟩
  rw [hm] at HRV hnc hl ⊢
  have HM := Lib.hid hm
  have hcm2 : c ≤ 9223372036854775807 := by unfold maxLen at hcm; omega
  clear hm hcm hn hO hv hel
  go_enter Try.func3, Try.ntmps3
  go_wp2_with fail
  refine (lives18_any _).mono ?_
  rintro e w1 ⟨rfl, hb1⟩
  have HB1 := Lib.hid hb1
  have HRV1 : Hid (Rv w1 (Lt w1.heap.size) (.slice A m c) (rowsD 4 op18D l)) := (HRV.out.kept hb1 (fun _ h => h)).wide fun b hb => Nat.lt_of_lt_of_le hb hb1.size
  have HFT := Lib.hid (fits_any _ l w1 HRV1.out HO.out (by rw [HM.out]; exact hl))
  obtain ⟨ft, hft⟩ : ∃ ft, fitsX l = ft := ⟨_, rfl⟩
  have HFX := Lib.hid hft
  rw [hft] at HFT
  clear hb1 hft
  go_wp2_with fail
  refine HFT.out.mono ?_
  rintro e w2 ⟨rfl, hb2⟩
  have HB2 := Lib.hid (HB1.out.trans (hb2.mono HB1.out.size))
  clear hb2 HFT HRV1
  cases ft
  · go_wp2_with fail
    refine (lives18_any _).mono ?_
    rintro e w3 ⟨rfl, hb3⟩
    have HB3 := Lib.hid (HB2.out.trans (hb3.mono HB2.out.size))
    clear hb3
    go_wp2
    go_ret
    exact ⟨rfl, HB3.out⟩
  have h60 := (fits_iff.1 HFX.out).2
  have HF4 := Lib.hid (fits_iff.1 HFX.out).1
  rw [HM.out] at h60
  have HOK0 := Lib.hid (new_okS HNN.out)
  have HSZ0 := Lib.hid (zero_sx n)
  go_wp2_with fail
  refine (new18_any n _ HNN.out).mono ?_
  rintro e w3 ⟨cs1, rfl, hr, hb⟩
  have HLN : Hid ((newS n).all.length ≤ 400 * 0) := Nat.le_refl _
  obtain ⟨X0, hX0⟩ : ∃ X0, newS n = X0 := ⟨_, rfl⟩
  rw [hX0] at hr HOK0 HSZ0 HLN
  obtain ⟨vD, rfl, -, h1⟩ := sq_of hr
  have HA1 := Lib.hid h1
  have F1 := Lib.hid ((Frm.start HB2.out).new hb hr)
  clear hr hb h1 hX0
  have F3 := Lib.hid ((F1.out.alloc #[.int .u32 0, .slice none 0 0, .int .i64 0, .bool false, .bool false, .bool false] 28).alloc Zsx 31)
  rw [show (w3.alloc (.cells #[.int .u32 0, .slice none 0 0, .int .i64 0, .bool false, .bool false, .bool false] 28)).heap.size = w3.heap.size + 1 from by simp] at F3
  have F4 := Lib.hid (F3.out.put (i := 1) rfl (sqC (concS X0) vD))
  have e23 := HSZ0.out
  go_upto_region 4 with (first | (refine wpList_store_row rfl 28 _ _ rfl w3.heap.size (sqC (concS X0) vD) rfl rfl 28 #[.int .u32 0, .slice none 0 0, .int .i64 0, .bool false, .bool false, .bool false] (F3.out.at (i := 1) rfl) (by kernel_rfl) rfl HA1.out ?_) | (refine wpList_store_row rfl 31 _ _ rfl (w3.heap.size + 1) (sxC X0) rfl rfl 31 Zsx (F4.out.at (i := 0) rfl) (by kernel_rfl) rfl (sx_ones _) ?_) | go_in)
  have F5 := Lib.hid (F4.out.put (i := 0) rfl (sxC X0))
  obtain ⟨g1, hg1⟩ : ∃ g1, w3.heap.size = g1 := ⟨_, rfl⟩
  obtain ⟨g2, hg2⟩ : ∃ g2, g1 + 1 = g2 := ⟨_, rfl⟩
  generalize (((w3.alloc (.cells #[.int .u32 0, .slice none 0 0, .int .i64 0, .bool false, .bool false, .bool false] 28)).alloc (.cells Zsx 31)).setRow w3.heap.size (sqC (concS X0) vD)).setRow (w3.heap.size + 1) (sxC X0) = w5 at F5 ⊢
  rw [hg1, hg2] at F5 ⊢
  have F6 : Hid (Frm w w5 [(g2, (sxC X0), 31), (g1, (sqC (concS X0) vD), 28)] [((sqC (concS X0) vD).toList, sqD (concS X0))]) := F5
  clear F1 F3 F4 F5 hg1 hg2 HA1 HSZ0 HB1 HB2 e23
  go_wp2
  go_loopw [26] (fun t26 wr => ∃ (i : Nat) (x : Sx) (a : Value), i ≤ m ∧ t26 = .int .i64 (i : Int) ∧ Hid (OkS x) ∧ Hid (x.all.length ≤ 400 * i) ∧ Hid (Frm w wr [(g2, (sxC x), 31), (g1, (sqC (concS x) a), 28)] [((sqC (concS x) a).toList, sqD (concS x))])) (fun t26 _ => m - (intOf t26).toNat)
  case atStart => exact ⟨0, X0, vD, Nat.zero_le _, rfl, HOK0, HLN, F6⟩
  case round =>
    clear F6 HOK0 HLN
    obtain ⟨i, x, vD, hi, rfl, HOX, HXL, F1⟩ := hrel
    have hxl := HXL.out
    by_cases hlt : i < m
    · obtain ⟨o, ho⟩ : ∃ o, l[i]? = some o := ⟨_, List.getElem?_eq_getElem (by rw [HM.out]; exact hlt)⟩
      have HMO := Lib.hid (List.mem_of_getElem? ho)
      obtain ⟨ad, B, eb, rfl, hrb, hcl⟩ := HEL.out i o ho
      have HOO := Lib.hid (HO.out o HMO.out)
      have hk4 := HF4.out o HMO.out
      obtain ⟨kd, D, nn, sz⟩ := o
      dsimp only at hrb hcl hk4
      obtain ⟨k, hk⟩ : ∃ k, D.length = k := ⟨_, rfl⟩
      have HDK := Lib.hid hk
      rw [hk] at hrb hcl hk4
      have HKC : Hid (∀ (j : Nat) u, (#[.int .i64 kd, .slice B k eb, .int .i64 nn, .int .i64 sz] : Array Value)[j]? = some u → wr.cell? ((ad.add (i * 4)).add j) = some u) := fun j u hj => (F1.out.below.cell (cell_lt (hcl j u hj))).trans (hcl j u hj)
      have F2 := Lib.hid (F1.out.add (us := [.slice B k eb]) (ds := [bytesD D]) (F1.out.old (rvs_cons.2 ⟨hrb, rvs_nil⟩)))
      clear ho hrb hcl hk HMO F1
      go_upto_region 7 with (first | (refine wpList_load_atA rfl 33 _ rfl (ad.add (i * 4)) rfl #[.int .i64 kd, .slice B k eb, .int .i64 nn, .int .i64 sz] _ HKC.out Try.underlying33 rfl (by kernel_rfl) ?_) | (refine wpList_store_new rfl 33 _ _ rfl wr #[.int .i64 0, .slice none 0 0, .int .i64 0, .int .i64 0] #[.int .i64 kd, .slice B k eb, .int .i64 nn, .int .i64 sz] rfl rfl (by kernel_rfl) rfl (by simp [Value.oneCell']) ?_) | go_in)
      have F3 := Lib.hid (F2.out.alloc #[.int .i64 kd, .slice B k eb, .int .i64 nn, .int .i64 sz] 33)
      obtain ⟨go, hgo⟩ : ∃ go, wr.heap.size = go := ⟨_, rfl⟩
      rw [hgo] at F3 ⊢
      change Code.wp _ _ _ _ (wr.alloc (.cells #[.int .i64 kd, .slice B k eb, .int .i64 nn, .int .i64 sz] 33))
      generalize wr.alloc (.cells #[.int .i64 kd, .slice B k eb, .int .i64 nn, .int .i64 sz] 33) = w5 at F3 ⊢
      clear HKC F2 hgo
      have HLX : Hid (x.all.length ≤ 999000) := by show _ ≤ _; omega
      have HST := Lib.hid (step18_any x (sqC (concS x) vD) #[.int .i64 kd, .slice B k eb, .int .i64 nn, .int .i64 sz] ⟨kd, D, nn, sz⟩ (Nv [go, g2, g1]) w5 (F3.out.val (i := 1) rfl) (by
        have := (rvs_cons.1 (F3.out.val (i := 0) rfl)).1
        exact rvs_cons.2 ⟨rv_val.2 ⟨rfl, by trivial⟩, rvs_cons.2 ⟨this, rvs_cons.2 ⟨rv_val.2 ⟨rfl, by trivial⟩, rvs_cons.2 ⟨rv_val.2 ⟨rfl, by trivial⟩, rvs_nil⟩⟩⟩⟩) HOX.out HOO.out (by show D.length ≤ 400; rw [HDK.out]; exact hk4) HLX.out)
      have HOY := Lib.hid (step_okS HOX.out ⟨kd, D, nn, sz⟩)
      have HYL := Lib.hid (step_lenS x ⟨kd, D, nn, sz⟩)
      obtain ⟨y, hy⟩ : ∃ y, stepS x ⟨kd, D, nn, sz⟩ = y := ⟨_, rfl⟩
      rw [hy] at HST HOY HYL
      have HYL2 : Hid (y.all.length ≤ 400 * (i + 1)) := by
        have h1 := HYL.out
        have h2 : D.length = k := HDK.out
        show _ ≤ _
        simp only at h1
        omega
      clear hy HYL HOO
      go_wp2_with (first | (refine wpList_load_row rfl 28 _ rfl g1 rfl 28 (sqC (concS x) vD) (0, 0) _ (F3.out.at (i := 2) rfl) Try.underlying28 rfl (by kernel_rfl) ?_) | (refine wpList_load_row rfl 31 _ rfl g2 rfl 31 (sxC x) (0, 0) _ (F3.out.at (i := 1) rfl) Try.underlying31 rfl (by kernel_rfl) ?_) | (refine wpList_load_row rfl 33 _ rfl go rfl 33 #[.int .i64 kd, .slice B k eb, .int .i64 nn, .int .i64 sz] (0, 0) _ (F3.out.at (i := 0) rfl) Try.underlying33 rfl (by kernel_rfl) ?_))
      refine HST.out.mono ?_
      rintro e w6 ⟨cs', rfl, hr, hb⟩
      obtain ⟨vE, rfl, -, h1⟩ := sq_of hr
      have H1 := Lib.hid h1
      have F4 := Lib.hid (F3.out.res hb hr)
      clear h1 hr hb F3 HST
      have F5 := Lib.hid ((F4.out.alloc #[.int .u32 0, .slice none 0 0, .int .i64 0, .bool false, .bool false, .bool false] 28).alloc Zsx 31)
      rw [show (w6.alloc (.cells #[.int .u32 0, .slice none 0 0, .int .i64 0, .bool false, .bool false, .bool false] 28)).heap.size = w6.heap.size + 1 from by simp] at F5
      have F6 := Lib.hid (F5.out.put (i := 1) rfl (sqC (concS y) vE))
      go_upto_region 8 with (first | (refine wpList_store_row rfl 28 _ _ rfl w6.heap.size (sqC (concS y) vE) rfl rfl 28 #[.int .u32 0, .slice none 0 0, .int .i64 0, .bool false, .bool false, .bool false] (F5.out.at (i := 1) rfl) (by kernel_rfl) rfl H1.out ?_) | (refine wpList_store_row rfl 31 _ _ rfl (w6.heap.size + 1) (sxC y) rfl rfl 31 Zsx (F6.out.at (i := 0) rfl) (by kernel_rfl) rfl (sx_ones _) ?_) | go_in)
      have F7 := Lib.hid (F6.out.put (i := 0) rfl (sxC y))
      obtain ⟨gn1, hg1⟩ : ∃ g, w6.heap.size = g := ⟨_, rfl⟩
      obtain ⟨gn2, hg2⟩ : ∃ g, gn1 + 1 = g := ⟨_, rfl⟩
      generalize (((w6.alloc (.cells #[.int .u32 0, .slice none 0 0, .int .i64 0, .bool false, .bool false, .bool false] 28)).alloc (.cells Zsx 31)).setRow w6.heap.size (sqC (concS y) vE)).setRow (w6.heap.size + 1) (sxC y) = wc at F7 ⊢
      rw [hg1, hg2] at F7 ⊢
      have F8 : Hid (Frm w wc [(gn2, (sxC y), 31), (gn1, (sqC (concS y) vE), 28), (go, #[.int .i64 kd, .slice B k eb, .int .i64 nn, .int .i64 sz], 33), (g2, (sxC x), 31), (g1, (sqC (concS x) vD), 28)] [((sqC (concS y) vE).toList, sqD (concS y)), ([.slice B k eb], [bytesD D]), ((sqC (concS x) vD).toList, sqD (concS x))]) := F7
      clear F4 F5 F6 F7 hg1 hg2
      have HN := Lib.hid (F8.out.at (i := 1) rfl)
      have HY := Lib.hid (F8.out.at (i := 0) rfl)
      have HXX := Lib.hid (F8.out.at (i := 3) rfl)
      have HXQ := Lib.hid (F8.out.at (i := 4) rfl)
      have HL1 : Hid (x.all.length ≤ 1000000) := by show _ ≤ _; omega
      have HL2 : Hid (y.all.length ≤ 1000000) := by have := HYL2.out; show _ ≤ _; omega
      have HLX2 := Lib.hid (fun w9 (hb : Below wc.heap.size wc w9) => like18_any x _ _ w9 HOX.out HL1.out (rvs_call (F8.out.val (i := 2) rfl) hb))
      have HLY := Lib.hid (fun w9 (hb : Below wc.heap.size wc w9) => like18_any y _ _ w9 HOY.out HL2.out (rvs_call (F8.out.val (i := 0) rfl) hb))
      obtain ⟨AE, nE, cE, hvE, hvR, hnE, hnc2⟩ : ∃ AE nE cE, vE = .slice AE nE cE ∧ (∀ w9, Below wc.heap.size wc w9 → Rv w9 (fun _ => True) (.slice AE nE cE) (bytesD (concS y).data)) ∧ (concS y).data.length = nE ∧ nE ≤ 1000000 := by
        obtain ⟨v1, e, hr1, -⟩ := sq_of (F8.out.val (i := 0) rfl)
        have e2 : v1 = vE := by
          injection e with e
          injection e with _ e
          injection e with e _
          exact e.symm
        subst e2
        obtain ⟨A1, c1, rfl, -, -⟩ := rv_bytes.1 hr1
        refine ⟨A1, _, c1, rfl, fun w9 hb => ((rv_lt hr1).kept hb (fun _ h => h.2)).wide fun _ _ => trivial, rfl, ?_⟩
        have h3 := HOY.out.room
        show (y.all.drop (fromS y)).length ≤ _
        rw [List.length_drop]
        omega
      subst hvE
      have HVR := Lib.hid hvR
      have HNE := Lib.hid hnE
      have HRI : Hid (∀ w9, Below wc.heap.size wc w9 → Calls Try.prog 13 #[.agg (sqC (concS y) (.slice AE nE cE))] w9 fun e w' => e = .returned (.bool true) ∧ Below w9.heap.size w9 w') := fun w9 hb => by
        have h := right18_any (concS y).una ((concS y).sent : Int) (.slice AE nE cE) (concS y).data (concS y).fin (concS y).fsent (concS y).facked _ w9 (HVR.out w9 hb) (by unfold I64; have := HOY.out.sent; have := HL2.out; show _ ∧ ((y.sent - fromS y : Nat) : Int) ≤ _; omega) (by rw [HNE.out]; omega)
        rw [conc_right HOY.out] at h
        exact h
      have HRO := Lib.hid (fun w9 (hb : Below wc.heap.size wc w9) => room18_any y _ _ w9 (rvs_call (F8.out.val (i := 0) rfl) hb) HOY.out)
      have HRX := Lib.hid (fun w9 => refroom_any y w9 HOY.out HL2.out (act_okS HOY.out HL2.out))
      have HFL := Lib.hid (fun w9 (hb : Below wc.heap.size wc w9) => flight18_any y _ _ w9 (rvs_call (F8.out.val (i := 0) rfl) hb) HOY.out)
      have HFX2 := Lib.hid (fun w9 => refflight_any y w9 HOY.out HL2.out)
      have HEM := Lib.hid (fun w9 (hb : Below wc.heap.size wc w9) => empty18_any y _ _ w9 (rvs_call (F8.out.val (i := 0) rfl) hb) HOY.out)
      generalize roomS y = rm at HRO HRX
      generalize flightS y = fl at HFL HFX2
      have HDL := Lib.hid (data_len HOY.out)
      have HED : Hid (emptyS y = (decide (y.all.length ≤ y.acked) && (!y.fin || decide (y.all.length < y.acked)))) := rfl
      have C1 : Hid (∀ w9, Reg wc w9 → w9.cell? (((⟨gn1, 0, none⟩ : Addr)).add 1) = some (.slice AE nE cE)) := Lib.hid (var_cell HN.out 1 rfl)
      have D4 : Hid (∀ w9, Reg wc w9 → w9.cell? (((⟨gn2, 0, none⟩ : Addr)).add 4) = some (.bool y.fin)) := Lib.hid (var_cell HY.out 4 rfl)
      have D2 : Hid (∀ w9, Reg wc w9 → w9.cell? (((⟨gn2, 0, none⟩ : Addr)).add 2) = some (.int .i64 (y.acked : Int))) := Lib.hid (var_cell HY.out 2 rfl)
      have D1 : Hid (∀ w9, Reg wc w9 → w9.cell? (((⟨gn2, 0, none⟩ : Addr)).add 1) = some (.string ⟨y.all.toArray⟩)) := Lib.hid (var_cell HY.out 1 rfl)
      have htx : (⟨y.all.toArray⟩ : ByteArray).size = y.all.length := txt_size _
      obtain ⟨fn, hfn⟩ : ∃ fn, y.fin = fn := ⟨_, rfl⟩
      obtain ⟨ak, hak⟩ : ∃ ak, y.acked = ak := ⟨_, rfl⟩
      obtain ⟨al, hal⟩ : ∃ al, y.all.length = al := ⟨_, rfl⟩
      obtain ⟨tb, htb⟩ : ∃ tb, (⟨y.all.toArray⟩ : ByteArray) = tb := ⟨_, rfl⟩
      rw [htb, hal] at htx
      rw [hfn, hak, hal] at HED
      rw [hak, hal, HNE.out] at HDL
      rw [htb] at D1
      rw [hak] at D2
      rw [hfn] at D4
      clear hfn hak hal htb hvR hnE hxl
      by_cases hne : nE = 0
      · subst hne
        have hle := HDL.out.1 rfl
        cases fn
        · have HEV : Hid (emptyS y = true) := by
            show _ = _
            rw [HED.out]
            rw [decide_eq_true hle]; rfl
          rw [HEV.out] at HEM
          clear HEV
          as_aux_lemma =>
            refine wp_region_quiet_below (by kernel_rfl) (by kernel_rfl) ?_
            (first | go_big_quiet_step (fail) | quiet_step (fail))
            (first | go_big_quiet_step (fail) | quiet_step (fail))
            (first | go_big_quiet_step (fail) | quiet_step (fail))
            (refine wpQuiet_step (fun K hK => ?_); refine quiet_load_at (by kernel_rfl) 31 _ rfl (⟨g2, 0, none⟩ : Addr) (by first | rfl | (simp [Act.eval, Addr.add_mid])) (sxC x) _ (fun w9 hr9 => var_all HXX.out w9 (reg_below hr9)) Try.underlying31 rfl (by kernel_rfl) ?_; refine hK _ ?_; clear hK K; go_frame)
            (refine wpQuiet_step (fun K hK => ?_); refine quiet_load_at (by kernel_rfl) 28 _ rfl (⟨g1, 0, none⟩ : Addr) (by first | rfl | (simp [Act.eval, Addr.add_mid])) (sqC (concS x) vD) _ (fun w9 hr9 => var_all HXQ.out w9 (reg_below hr9)) Try.underlying28 rfl (by kernel_rfl) ?_; refine hK _ ?_; clear hK K; go_frame)
            quiet_step (first | (go_at_call 12; exact Calls.regrown_of (HLX2.out _ (below_regrown _ _ _))))
            (first | go_big_quiet_step (fail) | quiet_step (fail))
            (first | go_big_quiet_step (fail) | quiet_step (fail))
            (first | go_big_quiet_step (fail) | quiet_step (fail))
            (refine wpQuiet_step (fun K hK => ?_); refine quiet_load_at (by kernel_rfl) 31 _ rfl (⟨gn2, 0, none⟩ : Addr) (by first | rfl | (simp [Act.eval, Addr.add_mid])) (sxC y) _ (fun w9 hr9 => var_all HY.out w9 (reg_below hr9)) Try.underlying31 rfl (by kernel_rfl) ?_; refine hK _ ?_; clear hK K; go_frame)
            (refine wpQuiet_step (fun K hK => ?_); refine quiet_load_at (by kernel_rfl) 28 _ rfl (⟨gn1, 0, none⟩ : Addr) (by first | rfl | (simp [Act.eval, Addr.add_mid])) (sqC (concS y) (.slice AE 0 cE)) _ (fun w9 hr9 => var_all HN.out w9 (reg_below hr9)) Try.underlying28 rfl (by kernel_rfl) ?_; refine hK _ ?_; clear hK K; go_frame)
            quiet_step (first | (go_at_call 12; exact Calls.regrown_of (HLY.out _ (below_regrown _ _ _))))
            (first | go_big_quiet_step (fail) | quiet_step (fail))
            (first | go_big_quiet_step (fail) | quiet_step (fail))
            (first | go_big_quiet_step (fail) | quiet_step (fail))
            (refine wpQuiet_step (fun K hK => ?_); refine quiet_load_at (by kernel_rfl) 28 _ rfl (⟨gn1, 0, none⟩ : Addr) (by first | rfl | (simp [Act.eval, Addr.add_mid])) (sqC (concS y) (.slice AE 0 cE)) _ (fun w9 hr9 => var_all HN.out w9 (reg_below hr9)) Try.underlying28 rfl (by kernel_rfl) ?_; refine hK _ ?_; clear hK K; go_frame)
            quiet_step (first | (go_at_call 13; exact Calls.regrown_of (HRI.out _ (below_regrown _ _ _))))
            (first | go_big_quiet_step (fail) | quiet_step (fail))
            (first | go_big_quiet_step (fail) | quiet_step (fail))
            (first | go_big_quiet_step (fail) | quiet_step (fail))
            (refine wpQuiet_step (fun K hK => ?_); refine quiet_load_at (by kernel_rfl) 28 _ rfl (⟨gn1, 0, none⟩ : Addr) (by first | rfl | (simp [Act.eval, Addr.add_mid])) (sqC (concS y) (.slice AE 0 cE)) _ (fun w9 hr9 => var_all HN.out w9 (reg_below hr9)) Try.underlying28 rfl (by kernel_rfl) ?_; refine hK _ ?_; clear hK K; go_frame)
            quiet_step (first | (go_at_call 14; exact Calls.regrown_of (HRO.out _ (below_regrown _ _ _))))
            (refine wpQuiet_step (fun K hK => ?_); refine quiet_load_at (by kernel_rfl) 31 _ rfl (⟨gn2, 0, none⟩ : Addr) (by first | rfl | (simp [Act.eval, Addr.add_mid])) (sxC y) _ (fun w9 hr9 => var_all HY.out w9 (reg_below hr9)) Try.underlying31 rfl (by kernel_rfl) ?_; refine hK _ ?_; clear hK K; go_frame)
            quiet_step (first | (go_at_call 15; exact Calls.regrown_of (HRX.out _)))
            (first | go_big_quiet_step (fail) | quiet_step (fail))
            (first | go_big_quiet_step (fail) | quiet_step (fail))
            (first | go_big_quiet_step (fail) | quiet_step (fail))
            (refine wpQuiet_step (fun K hK => ?_); refine quiet_load_at (by kernel_rfl) 28 _ rfl (⟨gn1, 0, none⟩ : Addr) (by first | rfl | (simp [Act.eval, Addr.add_mid])) (sqC (concS y) (.slice AE 0 cE)) _ (fun w9 hr9 => var_all HN.out w9 (reg_below hr9)) Try.underlying28 rfl (by kernel_rfl) ?_; refine hK _ ?_; clear hK K; go_frame)
            quiet_step (first | (go_at_call 16; exact Calls.regrown_of (HFL.out _ (below_regrown _ _ _))))
            (refine wpQuiet_step (fun K hK => ?_); refine quiet_load_at (by kernel_rfl) 31 _ rfl (⟨gn2, 0, none⟩ : Addr) (by first | rfl | (simp [Act.eval, Addr.add_mid])) (sxC y) _ (fun w9 hr9 => var_all HY.out w9 (reg_below hr9)) Try.underlying31 rfl (by kernel_rfl) ?_; refine hK _ ?_; clear hK K; go_frame)
            quiet_step (first | (go_at_call 17; exact Calls.regrown_of (HFX2.out _)))
            (first | go_big_quiet_step (fail) | quiet_step (fail))
            (first | go_big_quiet_step (fail) | quiet_step (fail))
            (first | go_big_quiet_step (fail) | quiet_step (fail))
            (refine wpQuiet_step (fun K hK => ?_); refine quiet_load_at (by kernel_rfl) 28 _ rfl (⟨gn1, 0, none⟩ : Addr) (by first | rfl | (simp [Act.eval, Addr.add_mid])) (sqC (concS y) (.slice AE 0 cE)) _ (fun w9 hr9 => var_all HN.out w9 (reg_below hr9)) Try.underlying28 rfl (by kernel_rfl) ?_; refine hK _ ?_; clear hK K; go_frame)
            quiet_step (first | (go_at_call 18; exact Calls.regrown_of (HEM.out _ (below_regrown _ _ _))))
            (first | go_big_quiet_step (fail) | quiet_step (fail))
            (refine wpQuiet_step (fun K hK => ?_); refine quiet_load_cell (by kernel_rfl) 26 _ rfl ((⟨gn1, 0, none⟩ : Addr).add 1) (by first | rfl | (simp [Act.eval, Addr.add_mid])) (.slice AE 0 cE) _ C1.out Try.underlying26 rfl ?_; refine hK _ ?_; clear hK K; go_frame)
            (first | go_big_quiet_step (fail) | quiet_step (fail))
            (first | go_big_quiet_step (fail) | quiet_step (fail))
            (first | go_big_quiet_step (fail) | quiet_step (fail))
            (first | go_big_quiet_step (fail) | quiet_step (fail))
            (refine wpQuiet_step (fun K hK => ?_); refine quiet_load_cell (by kernel_rfl) 4 _ rfl ((⟨gn2, 0, none⟩ : Addr).add 4) (by first | rfl | (simp [Act.eval, Addr.add_mid])) (.bool false) _ D4.out Try.underlying4 rfl ?_; refine hK _ ?_; clear hK K; go_frame)
            (first | go_big_quiet_step (fail) | quiet_step (fail))
            (first | go_big_quiet_step (fail) | quiet_step (fail))
            (first | go_big_quiet_step (fail) | quiet_step (fail))
            (first | go_big_quiet_step (fail) | quiet_step (fail))
            (first | go_big_quiet_step (fail) | quiet_step (fail))
            (first | go_big_quiet_step (fail) | quiet_step (fail))
            (first | go_big_quiet_step (fail) | quiet_step (fail))
            (first | go_big_quiet_step (fail) | quiet_step (fail))
            (first | go_big_quiet_step (fail) | quiet_step (fail))
            (first | go_big_quiet_step (fail) | quiet_step (fail))
            (first | go_big_quiet_step (fail) | quiet_step (fail))
            (first | go_big_quiet_step (fail) | quiet_step (fail))
            refine wpQuiet_nil ?_
            intro w9 hw9
            obtain ⟨⟨dq, osq⟩, rfl⟩ := hw9
            have HB9 := Lib.hid ((Below.refl wc.heap.size wc).trans ((below_regrown wc dq osq).mono (Below.refl wc.heap.size wc).size))
            generalize Sort.grow (redrawn wc dq) osq = w9z at *
            have F9 := Lib.hid (F8.out.call HB9.out)
            clear F8 HB9 HLX2 HLY HRI HRO HRX HFL HFX2 HEM C1 D4 D2 D1 HN HY HXX HXQ HVR HNE htx HDL HED
            have HN := Lib.hid (F9.out.at (i := 1) rfl)
            have HY := Lib.hid (F9.out.at (i := 0) rfl)
            have HXX := Lib.hid (F9.out.at (i := 3) rfl)
            have HXQ := Lib.hid (F9.out.at (i := 4) rfl)
            have N12 : Hid (g1 ≠ g2) := F9.out.ne (i := 4) (j := 3) rfl rfl (by decide)
            have NN1 : Hid (gn1 ≠ g1) := F9.out.ne (i := 1) (j := 4) rfl rfl (by decide)
            have NN2 : Hid (gn1 ≠ g2) := F9.out.ne (i := 1) (j := 3) rfl rfl (by decide)
            have NY1 : Hid (gn2 ≠ g1) := F9.out.ne (i := 0) (j := 4) rfl rfl (by decide)
            have NY2 : Hid (gn2 ≠ g2) := F9.out.ne (i := 0) (j := 3) rfl rfl (by decide)
            go_upto_region 10 with (fail)
            apply wp_region_relyG [2, 3] (OldT w9z 2 g1 28 (sqC (concS x) vD) (sqC (concS y) (.slice AE 0 cE)) 3 g2 31 (sxC x) (sxC y)) (RL [Is (.agg (sqC (concS y) (.slice AE 0 cE))), Is (.agg (sxC y)), Any, Any]) [false, false, false, false, false, false, false, false, false, false, false, false, false, false, false, false, false, false, false, false, false, false, false, false, false, false, false, false, false, false, false, false, false, false, false, false, false, false, false, false, false, false, false, false, false, false, false, false, false, false, false, false, false, false, false, false, false, false, false, false, false, false, false, false, false, false, false, false, false, false, false, false, false, false, false, false, false, false, false, false, false, false, false, false, false, false, false, false, false, false, false, false, false, true, true, false, false, false, false, false]
            · kernel_rfl
            · kernel_rfl
            · kernel_rfl
            · refine ⟨?_, ?_, ?_, ?_, trivial⟩
              · intro L ev w' hC hL hx K hK
                have e9 : ev (.tmp 9) = _ := hx.base 9 (by kernel_rfl)
                have HK := Lib.hid hK
                have HC := Lib.hid hC
                have HL := Lib.hid hL
                have HX := Lib.hid hx
                have hc := hx.cst
                skip
                clear hx hK hC hL
                have q1 : ev (.tmp 9) = .pointer (some ⟨gn1, 0, none⟩) := e9
                have hld := run_loadVar_row (P := Try.prog) w' gn1 28 28 (sqC (concS y) (.slice AE 0 cE)) (0, 0) _ (HC.out.keep HN.out NN1.out NN2.out) Try.underlying28 rfl (by kernel_rfl)
                unfold Run
                rw [rely_load 28 _ rfl q1 hld]
                exact HK.out _ _ (.inl ⟨Below.refl _ _, by decide⟩) rfl
              · intro L ev w' hC hL hx K hK
                have e10 : ev (.tmp 10) = _ := hx.base 10 (by kernel_rfl)
                have HK := Lib.hid hK
                have HC := Lib.hid hC
                have HL := Lib.hid hL
                have HX := Lib.hid hx
                have hc := hx.cst
                skip
                clear hx hK hC hL
                have q1 : ev (.tmp 10) = .pointer (some ⟨gn2, 0, none⟩) := e10
                have hld := run_loadVar_row (P := Try.prog) w' gn2 31 31 (sxC y) (0, 0) _ (HC.out.keep HY.out NY1.out NY2.out) Try.underlying31 rfl (by kernel_rfl)
                unfold Run
                rw [rely_load 31 _ rfl q1 hld]
                exact HK.out _ _ (.inl ⟨Below.refl _ _, by decide⟩) rfl
              · intro L ev w' hC hL hx K hK
                have e5 : ev (.tmp 5) = _ := hx.base 5 (by kernel_rfl)
                have e93 := hx.held 0 _ rfl (by kernel_rfl)
                change ev (.tmp 93) = _ at e93
                have HK := Lib.hid hK
                have HC := Lib.hid hC
                have HL := Lib.hid hL
                have HX := Lib.hid hx
                have hc := hx.cst
                skip
                clear hx hK hC hL
                have qv : ev (.tmp 93) = .agg (sqC (concS y) (.slice AE 0 cE)) := e93
                have nst : L 2 = false := HL.out
                have qp : ev (.tmp 5) = .pointer (some ⟨g1, 0, none⟩) := e5
                have hgh := HC.out.old1 nst
                have hnv := HC.out.store1 nst rfl N12.out (by decide)
                have hst := run_storeVar_row (P := Try.prog) w' g1 28 28 (sqC (concS x) vD) (sqC (concS y) (.slice AE 0 cE)) hgh (by kernel_rfl) rfl H1.out
                unfold Run
                rw [rely_store 28 _ _ rfl qp qv hst]
                refine HK.out _ _ (.inr ⟨hnv, fun j hj hlj u hr => ?_⟩) trivial
                rcases j with _ | _ | _ | _ | j
                · exact hr
                · exact hr
                · exact absurd rfl hj
                · exact trivial
                · exact trivial
              · intro L ev w' hC hL hx K hK
                have e6 : ev (.tmp 6) = _ := hx.base 6 (by kernel_rfl)
                have e94 := hx.held 1 _ rfl (by kernel_rfl)
                change ev (.tmp 94) = _ at e94
                have HK := Lib.hid hK
                have HC := Lib.hid hC
                have HL := Lib.hid hL
                have HX := Lib.hid hx
                have hc := hx.cst
                skip
                clear hx hK hC hL
                have qv : ev (.tmp 94) = .agg (sxC y) := e94
                have nst : L 3 = false := HL.out
                have qp : ev (.tmp 6) = .pointer (some ⟨g2, 0, none⟩) := e6
                have hgh := HC.out.old2 nst
                have hnv := HC.out.store2 nst rfl N12.out (by decide)
                have hst := run_storeVar_row (P := Try.prog) w' g2 31 31 (sxC x) (sxC y) hgh (by kernel_rfl) rfl (sx_ones _)
                unfold Run
                rw [rely_store 31 _ _ rfl qp qv hst]
                refine HK.out _ _ (.inr ⟨hnv, fun j hj hlj u hr => ?_⟩) trivial
                rcases j with _ | _ | _ | _ | j
                · exact hr
                · exact hr
                · exact trivial
                · exact absurd rfl hj
                · exact trivial
            · exact rl_mono ⟨is_mono _, is_mono _, any_mono, any_mono, trivial⟩
            · exact fun L L' w' h1 hg => hg.agree (h1 2 (by simp)) (h1 3 (by simp))
            · exact fun L w' w'' hb hg => hg.below hb
            · exact OldT.start HXQ.out HXX.out
            · simp
            intro us wr hG hH
            obtain ⟨-, -, -, -, -⟩ := hH
            simp only [fillM]
            obtain ⟨hG9, hvn1, hvn2⟩ := hG
            have HVN1 : Hid (wr.heap[g1]? = some (.cells (sqC (concS y) (.slice AE 0 cE)) 28 (0, 0))) := hvn1
            have HVN2 : Hid (wr.heap[g2]? = some (.cells (sxC y) 31 (0, 0))) := hvn2
            have HG9 := Lib.hid hG9
            clear hG9 hvn1 hvn2
            generalize us 93 = v93
            generalize us 94 = v94
            have FA := Lib.hid (F9.out.put2 (i := 4) (j := 3) rfl rfl (by decide) HG9.out HVN1.out HVN2.out)
            have FB : Hid (Frm w _ [(g2, (sxC y), 31), (g1, (sqC (concS y) (.slice AE 0 cE)), 28)] [((sqC (concS y) (.slice AE 0 cE)).toList, sqD (concS y))]) := Lib.hid (FA.out.drop 3 rfl (fun p hp => by simp only [List.mem_cons, List.not_mem_nil, or_false] at hp ⊢; rcases hp with rfl; simp))
            clear F9 FA HG9 HVN1 HVN2 HN HY HXX HXQ N12 NN1 NN2 NY1 NY2 H1
            go_wp2
            go_roundw
            case rel => exact ⟨i + 1, y, _, by omega, by go_num, HOY, HYL2, FB⟩
            case measure => simp [intOf]; omega
        · by_cases hal : al < ak
          · have hal2 : (al : Int) < (ak : Int) := by omega
            have HEV : Hid (emptyS y = true) := by
              show _ = _
              rw [HED.out]
              rw [decide_eq_true hle, decide_eq_true hal]; rfl
            rw [HEV.out] at HEM
            clear HEV
            as_aux_lemma =>
              refine wp_region_quiet_below (by kernel_rfl) (by kernel_rfl) ?_
              (first | go_big_quiet_step (fail) | quiet_step (fail))
              (first | go_big_quiet_step (fail) | quiet_step (fail))
              (first | go_big_quiet_step (fail) | quiet_step (fail))
              (refine wpQuiet_step (fun K hK => ?_); refine quiet_load_at (by kernel_rfl) 31 _ rfl (⟨g2, 0, none⟩ : Addr) (by first | rfl | (simp [Act.eval, Addr.add_mid])) (sxC x) _ (fun w9 hr9 => var_all HXX.out w9 (reg_below hr9)) Try.underlying31 rfl (by kernel_rfl) ?_; refine hK _ ?_; clear hK K; go_frame)
              (refine wpQuiet_step (fun K hK => ?_); refine quiet_load_at (by kernel_rfl) 28 _ rfl (⟨g1, 0, none⟩ : Addr) (by first | rfl | (simp [Act.eval, Addr.add_mid])) (sqC (concS x) vD) _ (fun w9 hr9 => var_all HXQ.out w9 (reg_below hr9)) Try.underlying28 rfl (by kernel_rfl) ?_; refine hK _ ?_; clear hK K; go_frame)
              quiet_step (first | (go_at_call 12; exact Calls.regrown_of (HLX2.out _ (below_regrown _ _ _))))
              (first | go_big_quiet_step (fail) | quiet_step (fail))
              (first | go_big_quiet_step (fail) | quiet_step (fail))
              (first | go_big_quiet_step (fail) | quiet_step (fail))
              (refine wpQuiet_step (fun K hK => ?_); refine quiet_load_at (by kernel_rfl) 31 _ rfl (⟨gn2, 0, none⟩ : Addr) (by first | rfl | (simp [Act.eval, Addr.add_mid])) (sxC y) _ (fun w9 hr9 => var_all HY.out w9 (reg_below hr9)) Try.underlying31 rfl (by kernel_rfl) ?_; refine hK _ ?_; clear hK K; go_frame)
              (refine wpQuiet_step (fun K hK => ?_); refine quiet_load_at (by kernel_rfl) 28 _ rfl (⟨gn1, 0, none⟩ : Addr) (by first | rfl | (simp [Act.eval, Addr.add_mid])) (sqC (concS y) (.slice AE 0 cE)) _ (fun w9 hr9 => var_all HN.out w9 (reg_below hr9)) Try.underlying28 rfl (by kernel_rfl) ?_; refine hK _ ?_; clear hK K; go_frame)
              quiet_step (first | (go_at_call 12; exact Calls.regrown_of (HLY.out _ (below_regrown _ _ _))))
              (first | go_big_quiet_step (fail) | quiet_step (fail))
              (first | go_big_quiet_step (fail) | quiet_step (fail))
              (first | go_big_quiet_step (fail) | quiet_step (fail))
              (refine wpQuiet_step (fun K hK => ?_); refine quiet_load_at (by kernel_rfl) 28 _ rfl (⟨gn1, 0, none⟩ : Addr) (by first | rfl | (simp [Act.eval, Addr.add_mid])) (sqC (concS y) (.slice AE 0 cE)) _ (fun w9 hr9 => var_all HN.out w9 (reg_below hr9)) Try.underlying28 rfl (by kernel_rfl) ?_; refine hK _ ?_; clear hK K; go_frame)
              quiet_step (first | (go_at_call 13; exact Calls.regrown_of (HRI.out _ (below_regrown _ _ _))))
              (first | go_big_quiet_step (fail) | quiet_step (fail))
              (first | go_big_quiet_step (fail) | quiet_step (fail))
              (first | go_big_quiet_step (fail) | quiet_step (fail))
              (refine wpQuiet_step (fun K hK => ?_); refine quiet_load_at (by kernel_rfl) 28 _ rfl (⟨gn1, 0, none⟩ : Addr) (by first | rfl | (simp [Act.eval, Addr.add_mid])) (sqC (concS y) (.slice AE 0 cE)) _ (fun w9 hr9 => var_all HN.out w9 (reg_below hr9)) Try.underlying28 rfl (by kernel_rfl) ?_; refine hK _ ?_; clear hK K; go_frame)
              quiet_step (first | (go_at_call 14; exact Calls.regrown_of (HRO.out _ (below_regrown _ _ _))))
              (refine wpQuiet_step (fun K hK => ?_); refine quiet_load_at (by kernel_rfl) 31 _ rfl (⟨gn2, 0, none⟩ : Addr) (by first | rfl | (simp [Act.eval, Addr.add_mid])) (sxC y) _ (fun w9 hr9 => var_all HY.out w9 (reg_below hr9)) Try.underlying31 rfl (by kernel_rfl) ?_; refine hK _ ?_; clear hK K; go_frame)
              quiet_step (first | (go_at_call 15; exact Calls.regrown_of (HRX.out _)))
              (first | go_big_quiet_step (fail) | quiet_step (fail))
              (first | go_big_quiet_step (fail) | quiet_step (fail))
              (first | go_big_quiet_step (fail) | quiet_step (fail))
              (refine wpQuiet_step (fun K hK => ?_); refine quiet_load_at (by kernel_rfl) 28 _ rfl (⟨gn1, 0, none⟩ : Addr) (by first | rfl | (simp [Act.eval, Addr.add_mid])) (sqC (concS y) (.slice AE 0 cE)) _ (fun w9 hr9 => var_all HN.out w9 (reg_below hr9)) Try.underlying28 rfl (by kernel_rfl) ?_; refine hK _ ?_; clear hK K; go_frame)
              quiet_step (first | (go_at_call 16; exact Calls.regrown_of (HFL.out _ (below_regrown _ _ _))))
              (refine wpQuiet_step (fun K hK => ?_); refine quiet_load_at (by kernel_rfl) 31 _ rfl (⟨gn2, 0, none⟩ : Addr) (by first | rfl | (simp [Act.eval, Addr.add_mid])) (sxC y) _ (fun w9 hr9 => var_all HY.out w9 (reg_below hr9)) Try.underlying31 rfl (by kernel_rfl) ?_; refine hK _ ?_; clear hK K; go_frame)
              quiet_step (first | (go_at_call 17; exact Calls.regrown_of (HFX2.out _)))
              (first | go_big_quiet_step (fail) | quiet_step (fail))
              (first | go_big_quiet_step (fail) | quiet_step (fail))
              (first | go_big_quiet_step (fail) | quiet_step (fail))
              (refine wpQuiet_step (fun K hK => ?_); refine quiet_load_at (by kernel_rfl) 28 _ rfl (⟨gn1, 0, none⟩ : Addr) (by first | rfl | (simp [Act.eval, Addr.add_mid])) (sqC (concS y) (.slice AE 0 cE)) _ (fun w9 hr9 => var_all HN.out w9 (reg_below hr9)) Try.underlying28 rfl (by kernel_rfl) ?_; refine hK _ ?_; clear hK K; go_frame)
              quiet_step (first | (go_at_call 18; exact Calls.regrown_of (HEM.out _ (below_regrown _ _ _))))
              (first | go_big_quiet_step (fail) | quiet_step (fail))
              (refine wpQuiet_step (fun K hK => ?_); refine quiet_load_cell (by kernel_rfl) 26 _ rfl ((⟨gn1, 0, none⟩ : Addr).add 1) (by first | rfl | (simp [Act.eval, Addr.add_mid])) (.slice AE 0 cE) _ C1.out Try.underlying26 rfl ?_; refine hK _ ?_; clear hK K; go_frame)
              (first | go_big_quiet_step (fail) | quiet_step (fail))
              (first | go_big_quiet_step (fail) | quiet_step (fail))
              (first | go_big_quiet_step (fail) | quiet_step (fail))
              (first | go_big_quiet_step (fail) | quiet_step (fail))
              (refine wpQuiet_step (fun K hK => ?_); refine quiet_load_cell (by kernel_rfl) 4 _ rfl ((⟨gn2, 0, none⟩ : Addr).add 4) (by first | rfl | (simp [Act.eval, Addr.add_mid])) (.bool true) _ D4.out Try.underlying4 rfl ?_; refine hK _ ?_; clear hK K; go_frame)
              (first | go_big_quiet_step (fail) | quiet_step (fail))
              (first | go_big_quiet_step (fail) | quiet_step (fail))
              (first | go_big_quiet_step (fail) | quiet_step (fail))
              (refine wpQuiet_step (fun K hK => ?_); refine quiet_load_cell (by kernel_rfl) 3 _ rfl ((⟨gn2, 0, none⟩ : Addr).add 2) (by first | rfl | (simp [Act.eval, Addr.add_mid])) (.int .i64 (ak : Int)) _ D2.out Try.underlying3 rfl ?_; refine hK _ ?_; clear hK K; go_frame)
              (first | go_big_quiet_step (fail) | quiet_step (fail))
              (refine wpQuiet_step (fun K hK => ?_); refine quiet_load_cell (by kernel_rfl) 9 _ rfl ((⟨gn2, 0, none⟩ : Addr).add 1) (by first | rfl | (simp [Act.eval, Addr.add_mid])) (.string tb) _ D1.out Try.underlying9 rfl ?_; refine hK _ ?_; clear hK K; go_frame)
              (first | go_big_quiet_step (fail) | quiet_step (fail))
              (first | go_big_quiet_step (fail) | quiet_step (fail))
              (first | go_big_quiet_step (fail) | quiet_step (fail))
              (first | go_big_quiet_step (fail) | quiet_step (fail))
              (first | go_big_quiet_step (fail) | quiet_step (fail))
              (first | go_big_quiet_step (fail) | quiet_step (fail))
              refine wpQuiet_nil ?_
              intro w9 hw9
              obtain ⟨⟨dq, osq⟩, rfl⟩ := hw9
              have HB9 := Lib.hid ((Below.refl wc.heap.size wc).trans ((below_regrown wc dq osq).mono (Below.refl wc.heap.size wc).size))
              generalize Sort.grow (redrawn wc dq) osq = w9z at *
              have F9 := Lib.hid (F8.out.call HB9.out)
              clear F8 HB9 HLX2 HLY HRI HRO HRX HFL HFX2 HEM C1 D4 D2 D1 HN HY HXX HXQ HVR HNE htx HDL HED
              have HN := Lib.hid (F9.out.at (i := 1) rfl)
              have HY := Lib.hid (F9.out.at (i := 0) rfl)
              have HXX := Lib.hid (F9.out.at (i := 3) rfl)
              have HXQ := Lib.hid (F9.out.at (i := 4) rfl)
              have N12 : Hid (g1 ≠ g2) := F9.out.ne (i := 4) (j := 3) rfl rfl (by decide)
              have NN1 : Hid (gn1 ≠ g1) := F9.out.ne (i := 1) (j := 4) rfl rfl (by decide)
              have NN2 : Hid (gn1 ≠ g2) := F9.out.ne (i := 1) (j := 3) rfl rfl (by decide)
              have NY1 : Hid (gn2 ≠ g1) := F9.out.ne (i := 0) (j := 4) rfl rfl (by decide)
              have NY2 : Hid (gn2 ≠ g2) := F9.out.ne (i := 0) (j := 3) rfl rfl (by decide)
              go_upto_region 10 with (fail)
              apply wp_region_relyG [2, 3] (OldT w9z 2 g1 28 (sqC (concS x) vD) (sqC (concS y) (.slice AE 0 cE)) 3 g2 31 (sxC x) (sxC y)) (RL [Is (.agg (sqC (concS y) (.slice AE 0 cE))), Is (.agg (sxC y)), Any, Any]) [false, false, false, false, false, false, false, false, false, false, false, false, false, false, false, false, false, false, false, false, false, false, false, false, false, false, false, false, false, false, false, false, false, false, false, false, false, false, false, false, false, false, false, false, false, false, false, false, false, false, false, false, false, false, false, false, false, false, false, false, false, false, false, false, false, false, false, false, false, false, false, false, false, false, false, false, false, false, false, false, false, false, false, false, false, false, false, false, false, false, false, false, false, true, true, false, false, false, false, false]
              · kernel_rfl
              · kernel_rfl
              · kernel_rfl
              · refine ⟨?_, ?_, ?_, ?_, trivial⟩
                · intro L ev w' hC hL hx K hK
                  have e9 : ev (.tmp 9) = _ := hx.base 9 (by kernel_rfl)
                  have HK := Lib.hid hK
                  have HC := Lib.hid hC
                  have HL := Lib.hid hL
                  have HX := Lib.hid hx
                  have hc := hx.cst
                  skip
                  clear hx hK hC hL
                  have q1 : ev (.tmp 9) = .pointer (some ⟨gn1, 0, none⟩) := e9
                  have hld := run_loadVar_row (P := Try.prog) w' gn1 28 28 (sqC (concS y) (.slice AE 0 cE)) (0, 0) _ (HC.out.keep HN.out NN1.out NN2.out) Try.underlying28 rfl (by kernel_rfl)
                  unfold Run
                  rw [rely_load 28 _ rfl q1 hld]
                  exact HK.out _ _ (.inl ⟨Below.refl _ _, by decide⟩) rfl
                · intro L ev w' hC hL hx K hK
                  have e10 : ev (.tmp 10) = _ := hx.base 10 (by kernel_rfl)
                  have HK := Lib.hid hK
                  have HC := Lib.hid hC
                  have HL := Lib.hid hL
                  have HX := Lib.hid hx
                  have hc := hx.cst
                  skip
                  clear hx hK hC hL
                  have q1 : ev (.tmp 10) = .pointer (some ⟨gn2, 0, none⟩) := e10
                  have hld := run_loadVar_row (P := Try.prog) w' gn2 31 31 (sxC y) (0, 0) _ (HC.out.keep HY.out NY1.out NY2.out) Try.underlying31 rfl (by kernel_rfl)
                  unfold Run
                  rw [rely_load 31 _ rfl q1 hld]
                  exact HK.out _ _ (.inl ⟨Below.refl _ _, by decide⟩) rfl
                · intro L ev w' hC hL hx K hK
                  have e5 : ev (.tmp 5) = _ := hx.base 5 (by kernel_rfl)
                  have e93 := hx.held 0 _ rfl (by kernel_rfl)
                  change ev (.tmp 93) = _ at e93
                  have HK := Lib.hid hK
                  have HC := Lib.hid hC
                  have HL := Lib.hid hL
                  have HX := Lib.hid hx
                  have hc := hx.cst
                  skip
                  clear hx hK hC hL
                  have qv : ev (.tmp 93) = .agg (sqC (concS y) (.slice AE 0 cE)) := e93
                  have nst : L 2 = false := HL.out
                  have qp : ev (.tmp 5) = .pointer (some ⟨g1, 0, none⟩) := e5
                  have hgh := HC.out.old1 nst
                  have hnv := HC.out.store1 nst rfl N12.out (by decide)
                  have hst := run_storeVar_row (P := Try.prog) w' g1 28 28 (sqC (concS x) vD) (sqC (concS y) (.slice AE 0 cE)) hgh (by kernel_rfl) rfl H1.out
                  unfold Run
                  rw [rely_store 28 _ _ rfl qp qv hst]
                  refine HK.out _ _ (.inr ⟨hnv, fun j hj hlj u hr => ?_⟩) trivial
                  rcases j with _ | _ | _ | _ | j
                  · exact hr
                  · exact hr
                  · exact absurd rfl hj
                  · exact trivial
                  · exact trivial
                · intro L ev w' hC hL hx K hK
                  have e6 : ev (.tmp 6) = _ := hx.base 6 (by kernel_rfl)
                  have e94 := hx.held 1 _ rfl (by kernel_rfl)
                  change ev (.tmp 94) = _ at e94
                  have HK := Lib.hid hK
                  have HC := Lib.hid hC
                  have HL := Lib.hid hL
                  have HX := Lib.hid hx
                  have hc := hx.cst
                  skip
                  clear hx hK hC hL
                  have qv : ev (.tmp 94) = .agg (sxC y) := e94
                  have nst : L 3 = false := HL.out
                  have qp : ev (.tmp 6) = .pointer (some ⟨g2, 0, none⟩) := e6
                  have hgh := HC.out.old2 nst
                  have hnv := HC.out.store2 nst rfl N12.out (by decide)
                  have hst := run_storeVar_row (P := Try.prog) w' g2 31 31 (sxC x) (sxC y) hgh (by kernel_rfl) rfl (sx_ones _)
                  unfold Run
                  rw [rely_store 31 _ _ rfl qp qv hst]
                  refine HK.out _ _ (.inr ⟨hnv, fun j hj hlj u hr => ?_⟩) trivial
                  rcases j with _ | _ | _ | _ | j
                  · exact hr
                  · exact hr
                  · exact trivial
                  · exact absurd rfl hj
                  · exact trivial
              · exact rl_mono ⟨is_mono _, is_mono _, any_mono, any_mono, trivial⟩
              · exact fun L L' w' h1 hg => hg.agree (h1 2 (by simp)) (h1 3 (by simp))
              · exact fun L w' w'' hb hg => hg.below hb
              · exact OldT.start HXQ.out HXX.out
              · simp
              intro us wr hG hH
              obtain ⟨-, -, -, -, -⟩ := hH
              simp only [fillM]
              obtain ⟨hG9, hvn1, hvn2⟩ := hG
              have HVN1 : Hid (wr.heap[g1]? = some (.cells (sqC (concS y) (.slice AE 0 cE)) 28 (0, 0))) := hvn1
              have HVN2 : Hid (wr.heap[g2]? = some (.cells (sxC y) 31 (0, 0))) := hvn2
              have HG9 := Lib.hid hG9
              clear hG9 hvn1 hvn2
              generalize us 93 = v93
              generalize us 94 = v94
              have FA := Lib.hid (F9.out.put2 (i := 4) (j := 3) rfl rfl (by decide) HG9.out HVN1.out HVN2.out)
              have FB : Hid (Frm w _ [(g2, (sxC y), 31), (g1, (sqC (concS y) (.slice AE 0 cE)), 28)] [((sqC (concS y) (.slice AE 0 cE)).toList, sqD (concS y))]) := Lib.hid (FA.out.drop 3 rfl (fun p hp => by simp only [List.mem_cons, List.not_mem_nil, or_false] at hp ⊢; rcases hp with rfl; simp))
              clear F9 FA HG9 HVN1 HVN2 HN HY HXX HXQ N12 NN1 NN2 NY1 NY2 H1
              go_wp2
              go_roundw
              case rel => exact ⟨i + 1, y, _, by omega, by go_num, HOY, HYL2, FB⟩
              case measure => simp [intOf]; omega
          · have hal2 : ¬ (al : Int) < (ak : Int) := by omega
            have HEV : Hid (emptyS y = false) := by
              show _ = _
              rw [HED.out]
              rw [decide_eq_true hle, decide_eq_false hal]; rfl
            rw [HEV.out] at HEM
            clear HEV
            as_aux_lemma =>
              refine wp_region_quiet_below (by kernel_rfl) (by kernel_rfl) ?_
              (first | go_big_quiet_step (fail) | quiet_step (fail))
              (first | go_big_quiet_step (fail) | quiet_step (fail))
              (first | go_big_quiet_step (fail) | quiet_step (fail))
              (refine wpQuiet_step (fun K hK => ?_); refine quiet_load_at (by kernel_rfl) 31 _ rfl (⟨g2, 0, none⟩ : Addr) (by first | rfl | (simp [Act.eval, Addr.add_mid])) (sxC x) _ (fun w9 hr9 => var_all HXX.out w9 (reg_below hr9)) Try.underlying31 rfl (by kernel_rfl) ?_; refine hK _ ?_; clear hK K; go_frame)
              (refine wpQuiet_step (fun K hK => ?_); refine quiet_load_at (by kernel_rfl) 28 _ rfl (⟨g1, 0, none⟩ : Addr) (by first | rfl | (simp [Act.eval, Addr.add_mid])) (sqC (concS x) vD) _ (fun w9 hr9 => var_all HXQ.out w9 (reg_below hr9)) Try.underlying28 rfl (by kernel_rfl) ?_; refine hK _ ?_; clear hK K; go_frame)
              quiet_step (first | (go_at_call 12; exact Calls.regrown_of (HLX2.out _ (below_regrown _ _ _))))
              (first | go_big_quiet_step (fail) | quiet_step (fail))
              (first | go_big_quiet_step (fail) | quiet_step (fail))
              (first | go_big_quiet_step (fail) | quiet_step (fail))
              (refine wpQuiet_step (fun K hK => ?_); refine quiet_load_at (by kernel_rfl) 31 _ rfl (⟨gn2, 0, none⟩ : Addr) (by first | rfl | (simp [Act.eval, Addr.add_mid])) (sxC y) _ (fun w9 hr9 => var_all HY.out w9 (reg_below hr9)) Try.underlying31 rfl (by kernel_rfl) ?_; refine hK _ ?_; clear hK K; go_frame)
              (refine wpQuiet_step (fun K hK => ?_); refine quiet_load_at (by kernel_rfl) 28 _ rfl (⟨gn1, 0, none⟩ : Addr) (by first | rfl | (simp [Act.eval, Addr.add_mid])) (sqC (concS y) (.slice AE 0 cE)) _ (fun w9 hr9 => var_all HN.out w9 (reg_below hr9)) Try.underlying28 rfl (by kernel_rfl) ?_; refine hK _ ?_; clear hK K; go_frame)
              quiet_step (first | (go_at_call 12; exact Calls.regrown_of (HLY.out _ (below_regrown _ _ _))))
              (first | go_big_quiet_step (fail) | quiet_step (fail))
              (first | go_big_quiet_step (fail) | quiet_step (fail))
              (first | go_big_quiet_step (fail) | quiet_step (fail))
              (refine wpQuiet_step (fun K hK => ?_); refine quiet_load_at (by kernel_rfl) 28 _ rfl (⟨gn1, 0, none⟩ : Addr) (by first | rfl | (simp [Act.eval, Addr.add_mid])) (sqC (concS y) (.slice AE 0 cE)) _ (fun w9 hr9 => var_all HN.out w9 (reg_below hr9)) Try.underlying28 rfl (by kernel_rfl) ?_; refine hK _ ?_; clear hK K; go_frame)
              quiet_step (first | (go_at_call 13; exact Calls.regrown_of (HRI.out _ (below_regrown _ _ _))))
              (first | go_big_quiet_step (fail) | quiet_step (fail))
              (first | go_big_quiet_step (fail) | quiet_step (fail))
              (first | go_big_quiet_step (fail) | quiet_step (fail))
              (refine wpQuiet_step (fun K hK => ?_); refine quiet_load_at (by kernel_rfl) 28 _ rfl (⟨gn1, 0, none⟩ : Addr) (by first | rfl | (simp [Act.eval, Addr.add_mid])) (sqC (concS y) (.slice AE 0 cE)) _ (fun w9 hr9 => var_all HN.out w9 (reg_below hr9)) Try.underlying28 rfl (by kernel_rfl) ?_; refine hK _ ?_; clear hK K; go_frame)
              quiet_step (first | (go_at_call 14; exact Calls.regrown_of (HRO.out _ (below_regrown _ _ _))))
              (refine wpQuiet_step (fun K hK => ?_); refine quiet_load_at (by kernel_rfl) 31 _ rfl (⟨gn2, 0, none⟩ : Addr) (by first | rfl | (simp [Act.eval, Addr.add_mid])) (sxC y) _ (fun w9 hr9 => var_all HY.out w9 (reg_below hr9)) Try.underlying31 rfl (by kernel_rfl) ?_; refine hK _ ?_; clear hK K; go_frame)
              quiet_step (first | (go_at_call 15; exact Calls.regrown_of (HRX.out _)))
              (first | go_big_quiet_step (fail) | quiet_step (fail))
              (first | go_big_quiet_step (fail) | quiet_step (fail))
              (first | go_big_quiet_step (fail) | quiet_step (fail))
              (refine wpQuiet_step (fun K hK => ?_); refine quiet_load_at (by kernel_rfl) 28 _ rfl (⟨gn1, 0, none⟩ : Addr) (by first | rfl | (simp [Act.eval, Addr.add_mid])) (sqC (concS y) (.slice AE 0 cE)) _ (fun w9 hr9 => var_all HN.out w9 (reg_below hr9)) Try.underlying28 rfl (by kernel_rfl) ?_; refine hK _ ?_; clear hK K; go_frame)
              quiet_step (first | (go_at_call 16; exact Calls.regrown_of (HFL.out _ (below_regrown _ _ _))))
              (refine wpQuiet_step (fun K hK => ?_); refine quiet_load_at (by kernel_rfl) 31 _ rfl (⟨gn2, 0, none⟩ : Addr) (by first | rfl | (simp [Act.eval, Addr.add_mid])) (sxC y) _ (fun w9 hr9 => var_all HY.out w9 (reg_below hr9)) Try.underlying31 rfl (by kernel_rfl) ?_; refine hK _ ?_; clear hK K; go_frame)
              quiet_step (first | (go_at_call 17; exact Calls.regrown_of (HFX2.out _)))
              (first | go_big_quiet_step (fail) | quiet_step (fail))
              (first | go_big_quiet_step (fail) | quiet_step (fail))
              (first | go_big_quiet_step (fail) | quiet_step (fail))
              (refine wpQuiet_step (fun K hK => ?_); refine quiet_load_at (by kernel_rfl) 28 _ rfl (⟨gn1, 0, none⟩ : Addr) (by first | rfl | (simp [Act.eval, Addr.add_mid])) (sqC (concS y) (.slice AE 0 cE)) _ (fun w9 hr9 => var_all HN.out w9 (reg_below hr9)) Try.underlying28 rfl (by kernel_rfl) ?_; refine hK _ ?_; clear hK K; go_frame)
              quiet_step (first | (go_at_call 18; exact Calls.regrown_of (HEM.out _ (below_regrown _ _ _))))
              (first | go_big_quiet_step (fail) | quiet_step (fail))
              (refine wpQuiet_step (fun K hK => ?_); refine quiet_load_cell (by kernel_rfl) 26 _ rfl ((⟨gn1, 0, none⟩ : Addr).add 1) (by first | rfl | (simp [Act.eval, Addr.add_mid])) (.slice AE 0 cE) _ C1.out Try.underlying26 rfl ?_; refine hK _ ?_; clear hK K; go_frame)
              (first | go_big_quiet_step (fail) | quiet_step (fail))
              (first | go_big_quiet_step (fail) | quiet_step (fail))
              (first | go_big_quiet_step (fail) | quiet_step (fail))
              (first | go_big_quiet_step (fail) | quiet_step (fail))
              (refine wpQuiet_step (fun K hK => ?_); refine quiet_load_cell (by kernel_rfl) 4 _ rfl ((⟨gn2, 0, none⟩ : Addr).add 4) (by first | rfl | (simp [Act.eval, Addr.add_mid])) (.bool true) _ D4.out Try.underlying4 rfl ?_; refine hK _ ?_; clear hK K; go_frame)
              (first | go_big_quiet_step (fail) | quiet_step (fail))
              (first | go_big_quiet_step (fail) | quiet_step (fail))
              (first | go_big_quiet_step (fail) | quiet_step (fail))
              (refine wpQuiet_step (fun K hK => ?_); refine quiet_load_cell (by kernel_rfl) 3 _ rfl ((⟨gn2, 0, none⟩ : Addr).add 2) (by first | rfl | (simp [Act.eval, Addr.add_mid])) (.int .i64 (ak : Int)) _ D2.out Try.underlying3 rfl ?_; refine hK _ ?_; clear hK K; go_frame)
              (first | go_big_quiet_step (fail) | quiet_step (fail))
              (refine wpQuiet_step (fun K hK => ?_); refine quiet_load_cell (by kernel_rfl) 9 _ rfl ((⟨gn2, 0, none⟩ : Addr).add 1) (by first | rfl | (simp [Act.eval, Addr.add_mid])) (.string tb) _ D1.out Try.underlying9 rfl ?_; refine hK _ ?_; clear hK K; go_frame)
              (first | go_big_quiet_step (fail) | quiet_step (fail))
              (first | go_big_quiet_step (fail) | quiet_step (fail))
              (first | go_big_quiet_step (fail) | quiet_step (fail))
              (first | go_big_quiet_step (fail) | quiet_step (fail))
              (first | go_big_quiet_step (fail) | quiet_step (fail))
              (first | go_big_quiet_step (fail) | quiet_step (fail))
              refine wpQuiet_nil ?_
              intro w9 hw9
              obtain ⟨⟨dq, osq⟩, rfl⟩ := hw9
              have HB9 := Lib.hid ((Below.refl wc.heap.size wc).trans ((below_regrown wc dq osq).mono (Below.refl wc.heap.size wc).size))
              generalize Sort.grow (redrawn wc dq) osq = w9z at *
              have F9 := Lib.hid (F8.out.call HB9.out)
              clear F8 HB9 HLX2 HLY HRI HRO HRX HFL HFX2 HEM C1 D4 D2 D1 HN HY HXX HXQ HVR HNE htx HDL HED
              have HN := Lib.hid (F9.out.at (i := 1) rfl)
              have HY := Lib.hid (F9.out.at (i := 0) rfl)
              have HXX := Lib.hid (F9.out.at (i := 3) rfl)
              have HXQ := Lib.hid (F9.out.at (i := 4) rfl)
              have N12 : Hid (g1 ≠ g2) := F9.out.ne (i := 4) (j := 3) rfl rfl (by decide)
              have NN1 : Hid (gn1 ≠ g1) := F9.out.ne (i := 1) (j := 4) rfl rfl (by decide)
              have NN2 : Hid (gn1 ≠ g2) := F9.out.ne (i := 1) (j := 3) rfl rfl (by decide)
              have NY1 : Hid (gn2 ≠ g1) := F9.out.ne (i := 0) (j := 4) rfl rfl (by decide)
              have NY2 : Hid (gn2 ≠ g2) := F9.out.ne (i := 0) (j := 3) rfl rfl (by decide)
              go_upto_region 10 with (fail)
              apply wp_region_relyG [2, 3] (OldT w9z 2 g1 28 (sqC (concS x) vD) (sqC (concS y) (.slice AE 0 cE)) 3 g2 31 (sxC x) (sxC y)) (RL [Is (.agg (sqC (concS y) (.slice AE 0 cE))), Is (.agg (sxC y)), Any, Any]) [false, false, false, false, false, false, false, false, false, false, false, false, false, false, false, false, false, false, false, false, false, false, false, false, false, false, false, false, false, false, false, false, false, false, false, false, false, false, false, false, false, false, false, false, false, false, false, false, false, false, false, false, false, false, false, false, false, false, false, false, false, false, false, false, false, false, false, false, false, false, false, false, false, false, false, false, false, false, false, false, false, false, false, false, false, false, false, false, false, false, false, false, false, true, true, false, false, false, false, false]
              · kernel_rfl
              · kernel_rfl
              · kernel_rfl
              · refine ⟨?_, ?_, ?_, ?_, trivial⟩
                · intro L ev w' hC hL hx K hK
                  have e9 : ev (.tmp 9) = _ := hx.base 9 (by kernel_rfl)
                  have HK := Lib.hid hK
                  have HC := Lib.hid hC
                  have HL := Lib.hid hL
                  have HX := Lib.hid hx
                  have hc := hx.cst
                  skip
                  clear hx hK hC hL
                  have q1 : ev (.tmp 9) = .pointer (some ⟨gn1, 0, none⟩) := e9
                  have hld := run_loadVar_row (P := Try.prog) w' gn1 28 28 (sqC (concS y) (.slice AE 0 cE)) (0, 0) _ (HC.out.keep HN.out NN1.out NN2.out) Try.underlying28 rfl (by kernel_rfl)
                  unfold Run
                  rw [rely_load 28 _ rfl q1 hld]
                  exact HK.out _ _ (.inl ⟨Below.refl _ _, by decide⟩) rfl
                · intro L ev w' hC hL hx K hK
                  have e10 : ev (.tmp 10) = _ := hx.base 10 (by kernel_rfl)
                  have HK := Lib.hid hK
                  have HC := Lib.hid hC
                  have HL := Lib.hid hL
                  have HX := Lib.hid hx
                  have hc := hx.cst
                  skip
                  clear hx hK hC hL
                  have q1 : ev (.tmp 10) = .pointer (some ⟨gn2, 0, none⟩) := e10
                  have hld := run_loadVar_row (P := Try.prog) w' gn2 31 31 (sxC y) (0, 0) _ (HC.out.keep HY.out NY1.out NY2.out) Try.underlying31 rfl (by kernel_rfl)
                  unfold Run
                  rw [rely_load 31 _ rfl q1 hld]
                  exact HK.out _ _ (.inl ⟨Below.refl _ _, by decide⟩) rfl
                · intro L ev w' hC hL hx K hK
                  have e5 : ev (.tmp 5) = _ := hx.base 5 (by kernel_rfl)
                  have e93 := hx.held 0 _ rfl (by kernel_rfl)
                  change ev (.tmp 93) = _ at e93
                  have HK := Lib.hid hK
                  have HC := Lib.hid hC
                  have HL := Lib.hid hL
                  have HX := Lib.hid hx
                  have hc := hx.cst
                  skip
                  clear hx hK hC hL
                  have qv : ev (.tmp 93) = .agg (sqC (concS y) (.slice AE 0 cE)) := e93
                  have nst : L 2 = false := HL.out
                  have qp : ev (.tmp 5) = .pointer (some ⟨g1, 0, none⟩) := e5
                  have hgh := HC.out.old1 nst
                  have hnv := HC.out.store1 nst rfl N12.out (by decide)
                  have hst := run_storeVar_row (P := Try.prog) w' g1 28 28 (sqC (concS x) vD) (sqC (concS y) (.slice AE 0 cE)) hgh (by kernel_rfl) rfl H1.out
                  unfold Run
                  rw [rely_store 28 _ _ rfl qp qv hst]
                  refine HK.out _ _ (.inr ⟨hnv, fun j hj hlj u hr => ?_⟩) trivial
                  rcases j with _ | _ | _ | _ | j
                  · exact hr
                  · exact hr
                  · exact absurd rfl hj
                  · exact trivial
                  · exact trivial
                · intro L ev w' hC hL hx K hK
                  have e6 : ev (.tmp 6) = _ := hx.base 6 (by kernel_rfl)
                  have e94 := hx.held 1 _ rfl (by kernel_rfl)
                  change ev (.tmp 94) = _ at e94
                  have HK := Lib.hid hK
                  have HC := Lib.hid hC
                  have HL := Lib.hid hL
                  have HX := Lib.hid hx
                  have hc := hx.cst
                  skip
                  clear hx hK hC hL
                  have qv : ev (.tmp 94) = .agg (sxC y) := e94
                  have nst : L 3 = false := HL.out
                  have qp : ev (.tmp 6) = .pointer (some ⟨g2, 0, none⟩) := e6
                  have hgh := HC.out.old2 nst
                  have hnv := HC.out.store2 nst rfl N12.out (by decide)
                  have hst := run_storeVar_row (P := Try.prog) w' g2 31 31 (sxC x) (sxC y) hgh (by kernel_rfl) rfl (sx_ones _)
                  unfold Run
                  rw [rely_store 31 _ _ rfl qp qv hst]
                  refine HK.out _ _ (.inr ⟨hnv, fun j hj hlj u hr => ?_⟩) trivial
                  rcases j with _ | _ | _ | _ | j
                  · exact hr
                  · exact hr
                  · exact trivial
                  · exact absurd rfl hj
                  · exact trivial
              · exact rl_mono ⟨is_mono _, is_mono _, any_mono, any_mono, trivial⟩
              · exact fun L L' w' h1 hg => hg.agree (h1 2 (by simp)) (h1 3 (by simp))
              · exact fun L w' w'' hb hg => hg.below hb
              · exact OldT.start HXQ.out HXX.out
              · simp
              intro us wr hG hH
              obtain ⟨-, -, -, -, -⟩ := hH
              simp only [fillM]
              obtain ⟨hG9, hvn1, hvn2⟩ := hG
              have HVN1 : Hid (wr.heap[g1]? = some (.cells (sqC (concS y) (.slice AE 0 cE)) 28 (0, 0))) := hvn1
              have HVN2 : Hid (wr.heap[g2]? = some (.cells (sxC y) 31 (0, 0))) := hvn2
              have HG9 := Lib.hid hG9
              clear hG9 hvn1 hvn2
              generalize us 93 = v93
              generalize us 94 = v94
              have FA := Lib.hid (F9.out.put2 (i := 4) (j := 3) rfl rfl (by decide) HG9.out HVN1.out HVN2.out)
              have FB : Hid (Frm w _ [(g2, (sxC y), 31), (g1, (sqC (concS y) (.slice AE 0 cE)), 28)] [((sqC (concS y) (.slice AE 0 cE)).toList, sqD (concS y))]) := Lib.hid (FA.out.drop 3 rfl (fun p hp => by simp only [List.mem_cons, List.not_mem_nil, or_false] at hp ⊢; rcases hp with rfl; simp))
              clear F9 FA HG9 HVN1 HVN2 HN HY HXX HXQ N12 NN1 NN2 NY1 NY2 H1
              go_wp2
              go_roundw
              case rel => exact ⟨i + 1, y, _, by omega, by go_num, HOY, HYL2, FB⟩
              case measure => simp [intOf]; omega
      · have hle : ¬ al ≤ ak := fun h => hne (HDL.out.2 h)
        have hne2 : ¬ (nE : Int) = 0 := by omega
        have HEV : Hid (emptyS y = false) := by
          show _ = _
          rw [HED.out]
          rw [decide_eq_false hle]; rfl
        rw [HEV.out] at HEM
        clear HEV
        as_aux_lemma =>
          refine wp_region_quiet_below (by kernel_rfl) (by kernel_rfl) ?_
          (first | go_big_quiet_step (fail) | quiet_step (fail))
          (first | go_big_quiet_step (fail) | quiet_step (fail))
          (first | go_big_quiet_step (fail) | quiet_step (fail))
          (refine wpQuiet_step (fun K hK => ?_); refine quiet_load_at (by kernel_rfl) 31 _ rfl (⟨g2, 0, none⟩ : Addr) (by first | rfl | (simp [Act.eval, Addr.add_mid])) (sxC x) _ (fun w9 hr9 => var_all HXX.out w9 (reg_below hr9)) Try.underlying31 rfl (by kernel_rfl) ?_; refine hK _ ?_; clear hK K; go_frame)
          (refine wpQuiet_step (fun K hK => ?_); refine quiet_load_at (by kernel_rfl) 28 _ rfl (⟨g1, 0, none⟩ : Addr) (by first | rfl | (simp [Act.eval, Addr.add_mid])) (sqC (concS x) vD) _ (fun w9 hr9 => var_all HXQ.out w9 (reg_below hr9)) Try.underlying28 rfl (by kernel_rfl) ?_; refine hK _ ?_; clear hK K; go_frame)
          quiet_step (first | (go_at_call 12; exact Calls.regrown_of (HLX2.out _ (below_regrown _ _ _))))
          (first | go_big_quiet_step (fail) | quiet_step (fail))
          (first | go_big_quiet_step (fail) | quiet_step (fail))
          (first | go_big_quiet_step (fail) | quiet_step (fail))
          (refine wpQuiet_step (fun K hK => ?_); refine quiet_load_at (by kernel_rfl) 31 _ rfl (⟨gn2, 0, none⟩ : Addr) (by first | rfl | (simp [Act.eval, Addr.add_mid])) (sxC y) _ (fun w9 hr9 => var_all HY.out w9 (reg_below hr9)) Try.underlying31 rfl (by kernel_rfl) ?_; refine hK _ ?_; clear hK K; go_frame)
          (refine wpQuiet_step (fun K hK => ?_); refine quiet_load_at (by kernel_rfl) 28 _ rfl (⟨gn1, 0, none⟩ : Addr) (by first | rfl | (simp [Act.eval, Addr.add_mid])) (sqC (concS y) (.slice AE nE cE)) _ (fun w9 hr9 => var_all HN.out w9 (reg_below hr9)) Try.underlying28 rfl (by kernel_rfl) ?_; refine hK _ ?_; clear hK K; go_frame)
          quiet_step (first | (go_at_call 12; exact Calls.regrown_of (HLY.out _ (below_regrown _ _ _))))
          (first | go_big_quiet_step (fail) | quiet_step (fail))
          (first | go_big_quiet_step (fail) | quiet_step (fail))
          (first | go_big_quiet_step (fail) | quiet_step (fail))
          (refine wpQuiet_step (fun K hK => ?_); refine quiet_load_at (by kernel_rfl) 28 _ rfl (⟨gn1, 0, none⟩ : Addr) (by first | rfl | (simp [Act.eval, Addr.add_mid])) (sqC (concS y) (.slice AE nE cE)) _ (fun w9 hr9 => var_all HN.out w9 (reg_below hr9)) Try.underlying28 rfl (by kernel_rfl) ?_; refine hK _ ?_; clear hK K; go_frame)
          quiet_step (first | (go_at_call 13; exact Calls.regrown_of (HRI.out _ (below_regrown _ _ _))))
          (first | go_big_quiet_step (fail) | quiet_step (fail))
          (first | go_big_quiet_step (fail) | quiet_step (fail))
          (first | go_big_quiet_step (fail) | quiet_step (fail))
          (refine wpQuiet_step (fun K hK => ?_); refine quiet_load_at (by kernel_rfl) 28 _ rfl (⟨gn1, 0, none⟩ : Addr) (by first | rfl | (simp [Act.eval, Addr.add_mid])) (sqC (concS y) (.slice AE nE cE)) _ (fun w9 hr9 => var_all HN.out w9 (reg_below hr9)) Try.underlying28 rfl (by kernel_rfl) ?_; refine hK _ ?_; clear hK K; go_frame)
          quiet_step (first | (go_at_call 14; exact Calls.regrown_of (HRO.out _ (below_regrown _ _ _))))
          (refine wpQuiet_step (fun K hK => ?_); refine quiet_load_at (by kernel_rfl) 31 _ rfl (⟨gn2, 0, none⟩ : Addr) (by first | rfl | (simp [Act.eval, Addr.add_mid])) (sxC y) _ (fun w9 hr9 => var_all HY.out w9 (reg_below hr9)) Try.underlying31 rfl (by kernel_rfl) ?_; refine hK _ ?_; clear hK K; go_frame)
          quiet_step (first | (go_at_call 15; exact Calls.regrown_of (HRX.out _)))
          (first | go_big_quiet_step (fail) | quiet_step (fail))
          (first | go_big_quiet_step (fail) | quiet_step (fail))
          (first | go_big_quiet_step (fail) | quiet_step (fail))
          (refine wpQuiet_step (fun K hK => ?_); refine quiet_load_at (by kernel_rfl) 28 _ rfl (⟨gn1, 0, none⟩ : Addr) (by first | rfl | (simp [Act.eval, Addr.add_mid])) (sqC (concS y) (.slice AE nE cE)) _ (fun w9 hr9 => var_all HN.out w9 (reg_below hr9)) Try.underlying28 rfl (by kernel_rfl) ?_; refine hK _ ?_; clear hK K; go_frame)
          quiet_step (first | (go_at_call 16; exact Calls.regrown_of (HFL.out _ (below_regrown _ _ _))))
          (refine wpQuiet_step (fun K hK => ?_); refine quiet_load_at (by kernel_rfl) 31 _ rfl (⟨gn2, 0, none⟩ : Addr) (by first | rfl | (simp [Act.eval, Addr.add_mid])) (sxC y) _ (fun w9 hr9 => var_all HY.out w9 (reg_below hr9)) Try.underlying31 rfl (by kernel_rfl) ?_; refine hK _ ?_; clear hK K; go_frame)
          quiet_step (first | (go_at_call 17; exact Calls.regrown_of (HFX2.out _)))
          (first | go_big_quiet_step (fail) | quiet_step (fail))
          (first | go_big_quiet_step (fail) | quiet_step (fail))
          (first | go_big_quiet_step (fail) | quiet_step (fail))
          (refine wpQuiet_step (fun K hK => ?_); refine quiet_load_at (by kernel_rfl) 28 _ rfl (⟨gn1, 0, none⟩ : Addr) (by first | rfl | (simp [Act.eval, Addr.add_mid])) (sqC (concS y) (.slice AE nE cE)) _ (fun w9 hr9 => var_all HN.out w9 (reg_below hr9)) Try.underlying28 rfl (by kernel_rfl) ?_; refine hK _ ?_; clear hK K; go_frame)
          quiet_step (first | (go_at_call 18; exact Calls.regrown_of (HEM.out _ (below_regrown _ _ _))))
          (first | go_big_quiet_step (fail) | quiet_step (fail))
          (refine wpQuiet_step (fun K hK => ?_); refine quiet_load_cell (by kernel_rfl) 26 _ rfl ((⟨gn1, 0, none⟩ : Addr).add 1) (by first | rfl | (simp [Act.eval, Addr.add_mid])) (.slice AE nE cE) _ C1.out Try.underlying26 rfl ?_; refine hK _ ?_; clear hK K; go_frame)
          (first | go_big_quiet_step (fail) | quiet_step (fail))
          (first | go_big_quiet_step (fail) | quiet_step (fail))
          (first | go_big_quiet_step (fail) | quiet_step (fail))
          (first | go_big_quiet_step (fail) | quiet_step (fail))
          (first | go_big_quiet_step (fail) | quiet_step (fail))
          (first | go_big_quiet_step (fail) | quiet_step (fail))
          (first | go_big_quiet_step (fail) | quiet_step (fail))
          (first | go_big_quiet_step (fail) | quiet_step (fail))
          (first | go_big_quiet_step (fail) | quiet_step (fail))
          (first | go_big_quiet_step (fail) | quiet_step (fail))
          (first | go_big_quiet_step (fail) | quiet_step (fail))
          (first | go_big_quiet_step (fail) | quiet_step (fail))
          (first | go_big_quiet_step (fail) | quiet_step (fail))
          (first | go_big_quiet_step (fail) | quiet_step (fail))
          (first | go_big_quiet_step (fail) | quiet_step (fail))
          (first | go_big_quiet_step (fail) | quiet_step (fail))
          (first | go_big_quiet_step (fail) | quiet_step (fail))
          refine wpQuiet_nil ?_
          intro w9 hw9
          obtain ⟨⟨dq, osq⟩, rfl⟩ := hw9
          have HB9 := Lib.hid ((Below.refl wc.heap.size wc).trans ((below_regrown wc dq osq).mono (Below.refl wc.heap.size wc).size))
          generalize Sort.grow (redrawn wc dq) osq = w9z at *
          have F9 := Lib.hid (F8.out.call HB9.out)
          clear F8 HB9 HLX2 HLY HRI HRO HRX HFL HFX2 HEM C1 D4 D2 D1 HN HY HXX HXQ HVR HNE htx HDL HED
          have HN := Lib.hid (F9.out.at (i := 1) rfl)
          have HY := Lib.hid (F9.out.at (i := 0) rfl)
          have HXX := Lib.hid (F9.out.at (i := 3) rfl)
          have HXQ := Lib.hid (F9.out.at (i := 4) rfl)
          have N12 : Hid (g1 ≠ g2) := F9.out.ne (i := 4) (j := 3) rfl rfl (by decide)
          have NN1 : Hid (gn1 ≠ g1) := F9.out.ne (i := 1) (j := 4) rfl rfl (by decide)
          have NN2 : Hid (gn1 ≠ g2) := F9.out.ne (i := 1) (j := 3) rfl rfl (by decide)
          have NY1 : Hid (gn2 ≠ g1) := F9.out.ne (i := 0) (j := 4) rfl rfl (by decide)
          have NY2 : Hid (gn2 ≠ g2) := F9.out.ne (i := 0) (j := 3) rfl rfl (by decide)
          go_upto_region 10 with (fail)
          apply wp_region_relyG [2, 3] (OldT w9z 2 g1 28 (sqC (concS x) vD) (sqC (concS y) (.slice AE nE cE)) 3 g2 31 (sxC x) (sxC y)) (RL [Is (.agg (sqC (concS y) (.slice AE nE cE))), Is (.agg (sxC y)), Any, Any]) [false, false, false, false, false, false, false, false, false, false, false, false, false, false, false, false, false, false, false, false, false, false, false, false, false, false, false, false, false, false, false, false, false, false, false, false, false, false, false, false, false, false, false, false, false, false, false, false, false, false, false, false, false, false, false, false, false, false, false, false, false, false, false, false, false, false, false, false, false, false, false, false, false, false, false, false, false, false, false, false, false, false, false, false, false, false, false, false, false, false, false, false, false, true, true, false, false, false, false, false]
          · kernel_rfl
          · kernel_rfl
          · kernel_rfl
          · refine ⟨?_, ?_, ?_, ?_, trivial⟩
            · intro L ev w' hC hL hx K hK
              have e9 : ev (.tmp 9) = _ := hx.base 9 (by kernel_rfl)
              have HK := Lib.hid hK
              have HC := Lib.hid hC
              have HL := Lib.hid hL
              have HX := Lib.hid hx
              have hc := hx.cst
              skip
              clear hx hK hC hL
              have q1 : ev (.tmp 9) = .pointer (some ⟨gn1, 0, none⟩) := e9
              have hld := run_loadVar_row (P := Try.prog) w' gn1 28 28 (sqC (concS y) (.slice AE nE cE)) (0, 0) _ (HC.out.keep HN.out NN1.out NN2.out) Try.underlying28 rfl (by kernel_rfl)
              unfold Run
              rw [rely_load 28 _ rfl q1 hld]
              exact HK.out _ _ (.inl ⟨Below.refl _ _, by decide⟩) rfl
            · intro L ev w' hC hL hx K hK
              have e10 : ev (.tmp 10) = _ := hx.base 10 (by kernel_rfl)
              have HK := Lib.hid hK
              have HC := Lib.hid hC
              have HL := Lib.hid hL
              have HX := Lib.hid hx
              have hc := hx.cst
              skip
              clear hx hK hC hL
              have q1 : ev (.tmp 10) = .pointer (some ⟨gn2, 0, none⟩) := e10
              have hld := run_loadVar_row (P := Try.prog) w' gn2 31 31 (sxC y) (0, 0) _ (HC.out.keep HY.out NY1.out NY2.out) Try.underlying31 rfl (by kernel_rfl)
              unfold Run
              rw [rely_load 31 _ rfl q1 hld]
              exact HK.out _ _ (.inl ⟨Below.refl _ _, by decide⟩) rfl
            · intro L ev w' hC hL hx K hK
              have e5 : ev (.tmp 5) = _ := hx.base 5 (by kernel_rfl)
              have e93 := hx.held 0 _ rfl (by kernel_rfl)
              change ev (.tmp 93) = _ at e93
              have HK := Lib.hid hK
              have HC := Lib.hid hC
              have HL := Lib.hid hL
              have HX := Lib.hid hx
              have hc := hx.cst
              skip
              clear hx hK hC hL
              have qv : ev (.tmp 93) = .agg (sqC (concS y) (.slice AE nE cE)) := e93
              have nst : L 2 = false := HL.out
              have qp : ev (.tmp 5) = .pointer (some ⟨g1, 0, none⟩) := e5
              have hgh := HC.out.old1 nst
              have hnv := HC.out.store1 nst rfl N12.out (by decide)
              have hst := run_storeVar_row (P := Try.prog) w' g1 28 28 (sqC (concS x) vD) (sqC (concS y) (.slice AE nE cE)) hgh (by kernel_rfl) rfl H1.out
              unfold Run
              rw [rely_store 28 _ _ rfl qp qv hst]
              refine HK.out _ _ (.inr ⟨hnv, fun j hj hlj u hr => ?_⟩) trivial
              rcases j with _ | _ | _ | _ | j
              · exact hr
              · exact hr
              · exact absurd rfl hj
              · exact trivial
              · exact trivial
            · intro L ev w' hC hL hx K hK
              have e6 : ev (.tmp 6) = _ := hx.base 6 (by kernel_rfl)
              have e94 := hx.held 1 _ rfl (by kernel_rfl)
              change ev (.tmp 94) = _ at e94
              have HK := Lib.hid hK
              have HC := Lib.hid hC
              have HL := Lib.hid hL
              have HX := Lib.hid hx
              have hc := hx.cst
              skip
              clear hx hK hC hL
              have qv : ev (.tmp 94) = .agg (sxC y) := e94
              have nst : L 3 = false := HL.out
              have qp : ev (.tmp 6) = .pointer (some ⟨g2, 0, none⟩) := e6
              have hgh := HC.out.old2 nst
              have hnv := HC.out.store2 nst rfl N12.out (by decide)
              have hst := run_storeVar_row (P := Try.prog) w' g2 31 31 (sxC x) (sxC y) hgh (by kernel_rfl) rfl (sx_ones _)
              unfold Run
              rw [rely_store 31 _ _ rfl qp qv hst]
              refine HK.out _ _ (.inr ⟨hnv, fun j hj hlj u hr => ?_⟩) trivial
              rcases j with _ | _ | _ | _ | j
              · exact hr
              · exact hr
              · exact trivial
              · exact absurd rfl hj
              · exact trivial
          · exact rl_mono ⟨is_mono _, is_mono _, any_mono, any_mono, trivial⟩
          · exact fun L L' w' h1 hg => hg.agree (h1 2 (by simp)) (h1 3 (by simp))
          · exact fun L w' w'' hb hg => hg.below hb
          · exact OldT.start HXQ.out HXX.out
          · simp
          intro us wr hG hH
          obtain ⟨-, -, -, -, -⟩ := hH
          simp only [fillM]
          obtain ⟨hG9, hvn1, hvn2⟩ := hG
          have HVN1 : Hid (wr.heap[g1]? = some (.cells (sqC (concS y) (.slice AE nE cE)) 28 (0, 0))) := hvn1
          have HVN2 : Hid (wr.heap[g2]? = some (.cells (sxC y) 31 (0, 0))) := hvn2
          have HG9 := Lib.hid hG9
          clear hG9 hvn1 hvn2
          generalize us 93 = v93
          generalize us 94 = v94
          have FA := Lib.hid (F9.out.put2 (i := 4) (j := 3) rfl rfl (by decide) HG9.out HVN1.out HVN2.out)
          have FB : Hid (Frm w _ [(g2, (sxC y), 31), (g1, (sqC (concS y) (.slice AE nE cE)), 28)] [((sqC (concS y) (.slice AE nE cE)).toList, sqD (concS y))]) := Lib.hid (FA.out.drop 3 rfl (fun p hp => by simp only [List.mem_cons, List.not_mem_nil, or_false] at hp ⊢; rcases hp with rfl; simp))
          clear F9 FA HG9 HVN1 HVN2 HN HY HXX HXQ N12 NN1 NN2 NY1 NY2 H1
          go_wp2
          go_roundw
          case rel => exact ⟨i + 1, y, _, by omega, by go_num, HOY, HYL2, FB⟩
          case measure => simp [intOf]; omega
    · obtain rfl : i = m := by omega
      rename World => wr0
      have HXX := Lib.hid (F1.out.at (i := 0) rfl)
      have HXQ := Lib.hid (F1.out.at (i := 1) rfl)
      have HL1 : Hid (x.all.length ≤ 1000000) := by show _ ≤ _; omega
      have HCL := Lib.hid (fun w9 (hb : Below wr0.heap.size wr0 w9) => clone18_any x _ _ w9 (rvs_call (F1.out.val (i := 0) rfl) hb) HOX.out)
      have HLK := Lib.hid (fun w9 ds (hd : Rvs w9 (fun _ => True) ds.toList (sqD (concS x))) => like18_any x ds _ w9 HOX.out HL1.out hd)
      have HBF := Lib.hid F1.out.below
      clear F1 hxl
      go_upto_region 12 with (fail)
      apply wp_region_rely (fun _ => False) (RL [Is (.agg (sxC x)), Is (.agg (sqC (concS x) vD)), Rd1 (fun _ => True) (sqD (concS x)), Is (.bool true), Is _]) [false, false, false, false, true, false, false, false, false, false, false, false, false, false, false, false, false, false, false, false, false, false, false, false, false, false, false, false, false, false, false, false, false, false, false, false, false, false, false, false, false, false, false, false, false, false, false, false, false, false, false, false, false, false, false, false, false, false, false, false, false, false, false, false, false, false, false, false, false, false, false, false, false, false, false, false, false, false, false, false, false, false, false, false, false, false, false, false, false, false, false, false, false, false, false, false, true, true, true, true]
      · kernel_rfl
      · kernel_rfl
      · kernel_rfl
      · refine ⟨?_, ?_, ?_, ?_, ?_, trivial⟩
        · intro ev w' hC hc hf hb hr K hK
          have e6 : ev (.tmp 6) = _ := hb 6 (by kernel_rfl)
          have HK := Lib.hid hK
          have HC := Lib.hid hC
          clear hb hr hK hC hf
          have HBW : Below wr0.heap.size wr0 w' := HC.out.below (fun _ h => h.elim) (Nat.le_refl _)
          have q1 : ev (.tmp 6) = .pointer (some ⟨g2, 0, none⟩) := e6
          have hld := run_loadVar_row (P := Try.prog) w' g2 31 31 (sxC x) (0, 0) _ (old_below HXX.out HBW (row_lt HXX.out)) Try.underlying31 rfl (by kernel_rfl)
          unfold Run
          rw [rely_load 31 _ rfl q1 hld]
          exact HK.out _ _ (.inl (Below.refl _ _)) rfl
        · intro ev w' hC hc hf hb hr K hK
          have e5 : ev (.tmp 5) = _ := hb 5 (by kernel_rfl)
          have HK := Lib.hid hK
          have HC := Lib.hid hC
          clear hb hr hK hC hf
          have HBW : Below wr0.heap.size wr0 w' := HC.out.below (fun _ h => h.elim) (Nat.le_refl _)
          have q1 : ev (.tmp 5) = .pointer (some ⟨g1, 0, none⟩) := e5
          have hld := run_loadVar_row (P := Try.prog) w' g1 28 28 (sqC (concS x) vD) (0, 0) _ (old_below HXQ.out HBW (row_lt HXQ.out)) Try.underlying28 rfl (by kernel_rfl)
          unfold Run
          rw [rely_load 28 _ rfl q1 hld]
          exact HK.out _ _ (.inl (Below.refl _ _)) rfl
        · intro ev w' hC hc hf hb hr K hK
          have e97 := hr 1 _ rfl (by kernel_rfl)
          change ev (.tmp 97) = _ at e97
          have HK := Lib.hid hK
          have HC := Lib.hid hC
          clear hb hr hK hC
          have HBW : Below wr0.heap.size wr0 w' := HC.out.below (fun _ h => h.elim) (Nat.le_refl _)
          unfold Run
          simp [execOp, Upon, go_sem, *]
          refine (HCL.out w' HBW).mono ?_
          rintro e w2 ⟨cs', rfl, hr, hb⟩
          exact ⟨_, rfl, HK.out _ _ (.inl hb) ⟨cs', rfl, hr.wide (fun _ _ => trivial)⟩⟩
        · intro ev w' hC hc hf hb hr K hK
          have e96 := hr 0 _ rfl (by kernel_rfl)
          have e98 := hr 2 _ rfl (by kernel_rfl)
          change ev (.tmp 96) = _ at e96
          change (Rd1 (fun _ => True) (sqD (concS x)) : Pred) (ev (.tmp 98)) _ at e98
          have HK := Lib.hid hK
          have HC := Lib.hid hC
          clear hb hr hK hC
          have HBW : Below wr0.heap.size wr0 w' := HC.out.below (fun _ h => h.elim) (Nat.le_refl _)
          obtain ⟨ds, hd, hr⟩ := e98
          unfold Run
          simp [execOp, Upon, go_sem, *]
          refine (HLK.out w' ds hr).mono ?_
          rintro e w2 ⟨rfl, hb⟩
          exact ⟨_, rfl, HK.out _ _ (.inl hb) rfl⟩
        · intro ev w' hC hc hf hb hr K hK
          have e99 := hr 3 _ rfl (by kernel_rfl)
          change ev (.tmp 99) = _ at e99
          have HK := Lib.hid hK
          have HC := Lib.hid hC
          clear hb hr hK hC hf
          unfold Run
          simp [execOp, Upon, go_sem, *]
          exact HK.out _ _ (.inl (Below.refl _ _)) rfl
      · exact rl_mono ⟨is_mono _, is_mono _, rd1_mono _ _, is_mono _, is_mono _, trivial⟩
      intro us wr hG hH
      obtain ⟨-, -, -, -, h4, -⟩ := hH
      simp only [fillM]
      change us 4 = _ at h4
      rw [h4]
      clear h4
      generalize us 96 = v96
      generalize us 97 = v97
      generalize us 98 = v98
      generalize us 99 = v99
      have HBE := Lib.hid (HBF.out.trans (hG.below (fun _ h => h.elim) HBF.out.size))
      go_wp2
      go_ret
      exact ⟨rfl, HBE.out⟩
end Go.Proofs.Ytebflcpoecolbaa
