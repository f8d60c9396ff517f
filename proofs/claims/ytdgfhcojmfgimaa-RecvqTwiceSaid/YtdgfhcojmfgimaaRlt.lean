/-
  The law RecvqTwice: every number, every slice of ops.
-/
import Derived.Test.YtdgfhcojmfgimaaRlv
import Derived.Test.YtdgfhcojmfgimaaRqw
namespace Go.Proofs.Ytdgfhcojmfgimaa
open Go.RowKit

set_option maxRecDepth 100000 in
set_option maxHeartbeats 40000000 in
theorem twice_any (n : Int) (v : Value) (l : List Op17) (w : World) (hn : U32 n) (hv : Rv w (Lt w.heap.size) v (rowsD 4 op17D l)) (hO : ∀ o ∈ l, ok17 o) (hl : l.length ≤ 140737488351232) :
    Calls Try.prog 6 #[.int .u32 n, v] w fun e w' => e = .returned (.bool true) ∧ Below w.heap.size w w' := by
  have HRV := Lib.hid hv
  have HNN := Lib.hid hn
  have HO := Lib.hid hO
  obtain ⟨A, c, rfl, hnc, hcm, hel⟩ := op_at hv
  have HEL := Lib.hid hel
  obtain ⟨m, hm⟩ : ∃ m, l.length = m := ⟨_, rfl⟩
  rw [hm] at HRV hnc hl ⊢
  have HM := Lib.hid hm
  have hcm2 : c ≤ 9223372036854775807 := by unfold maxLen at hcm; omega
  clear hm hcm hn hO hv hel
  go_enter Try.func6, Try.ntmps6
  go_wp2_with fail
  refine (lives_any _).mono ?_
  rintro e w1 ⟨rfl, hb1⟩
  have HB1 := Lib.hid hb1
  have HRV1 : Hid (Rv w1 (Lt w1.heap.size) (.slice A m c) (rowsD 4 op17D l)) := (HRV.out.kept hb1 (fun _ h => h)).wide fun b hb => Nat.lt_of_lt_of_le hb hb1.size
  have HFT := Lib.hid (fits_any _ l w1 HRV1.out HO.out (by rw [HM.out]; exact hl))
  obtain ⟨ft, hft⟩ : ∃ ft, fitsX l = ft := ⟨_, rfl⟩
  have HFX := Lib.hid hft
  rw [hft] at HFT
  clear hb1 hft
  go_wp2_with fail
  refine HFT.out.mono ?_
  rintro e w2 ⟨rfl, hb2⟩
  have HB2 := Lib.hid (HB1.out.trans (hb2.mono HB1.out.size))
  clear hb2 HFT HRV1
  cases ft
  · go_wp2_with fail
    refine (lives_any _).mono ?_
    rintro e w3 ⟨rfl, hb3⟩
    have HB3 := Lib.hid (HB2.out.trans (hb3.mono HB2.out.size))
    clear hb3
    go_wp2
    go_ret
    exact ⟨rfl, HB3.out⟩
  have h60 := (fits_iff.1 HFX.out).2
  have HF4 := Lib.hid (fits_iff.1 HFX.out).1
  rw [HM.out] at h60
  have HOK0 := Lib.hid (new_ok HNN.out)
  obtain ⟨X0, hX0⟩ : ∃ X0, newX n = X0 := ⟨_, rfl⟩
  have HX0 := Lib.hid hX0
  rw [hX0] at HOK0
  clear hX0
  go_wp2_with fail
  refine (new_any n _ HNN.out).mono ?_
  rintro e w3 ⟨cs1, rfl, hr, hb⟩
  rw [HX0.out] at hr
  obtain ⟨vD, vA, rfl, h1⟩ := rq_of hr
  have HA1 := Lib.hid h1
  have F1 := Lib.hid ((Frm.start HB2.out).new hb hr)
  clear hr hb h1
  go_upto_region 4 with (first | (refine wpList_store_new rfl 29 _ _ rfl w3 #[.int .u32 0, .slice none 0 0, .slice none 0 0, .bool false, .int .u32 0, .bool false] (rqC (conc X0) vD vA) rfl rfl (by kernel_rfl) rfl HA1.out ?_) | go_in)
  have F2 := Lib.hid (F1.out.alloc (rqC (conc X0) vD vA) 29)
  generalize w3.alloc (.cells (rqC (conc X0) vD vA) 29) = w5 at F2 ⊢
  obtain ⟨g1, hg1⟩ : ∃ g1, w3.heap.size = g1 := ⟨_, rfl⟩
  rw [hg1] at F2 ⊢
  have F6 : Hid (Frm w w5 [(g1, (rqC (conc X0) vD vA), 29)] [((rqC (conc X0) vD vA).toList, rqD (conc X0))]) := F2
  clear F1 F2 hg1 HA1 HX0 HB1 HB2
  go_wp2
  go_loopw [25] (fun t25 wr => ∃ (i : Nat) (x : Rx) (a b : Value), i ≤ m ∧ t25 = .int .i64 (i : Int) ∧ Hid (OkX x) ∧ Hid (Frm w wr [(g1, (rqC (conc x) a b), 29)] [((rqC (conc x) a b).toList, rqD (conc x))])) (fun t25 _ => m - (intOf t25).toNat)
  case atStart => exact ⟨0, X0, vD, vA, Nat.zero_le _, rfl, HOK0, F6⟩
  case round =>
    clear F6 HOK0
    obtain ⟨i, x, vD, vA, hi, rfl, HOX, F1⟩ := hrel
    by_cases hlt : i < m
    · obtain ⟨o, ho⟩ : ∃ o, l[i]? = some o := ⟨_, List.getElem?_eq_getElem (by rw [HM.out]; exact hlt)⟩
      have HMO := Lib.hid (List.mem_of_getElem? ho)
      obtain ⟨ad, B, eb, rfl, hrb, hcl⟩ := HEL.out i o ho
      obtain ⟨ho1, -, ho3⟩ := HO.out o HMO.out
      have hk4 := HF4.out o HMO.out
      obtain ⟨off, D, fe, rd⟩ := o
      dsimp only at hrb hcl ho1 ho3 hk4
      obtain ⟨k, hk⟩ : ∃ k, D.length = k := ⟨_, rfl⟩
      have HDK := Lib.hid hk
      rw [hk] at hrb hcl hk4
      have HKC : Hid (∀ (j : Nat) u, (#[.int .i64 off, .slice B k eb, .bool fe, .int .i64 rd] : Array Value)[j]? = some u → wr.cell? ((ad.add (i * 4)).add j) = some u) := fun j u hj => (F1.out.below.cell (cell_lt (hcl j u hj))).trans (hcl j u hj)
      have F2 := Lib.hid (F1.out.add (us := [.slice B k eb]) (ds := [bytesD D]) (F1.out.old (rvs_cons.2 ⟨hrb, rvs_nil⟩)))
      have HRD := Lib.hid ho3
      clear ho hrb hcl hk HMO ho1 ho3 F1
      go_upto_region 7 with (first | (refine wpList_load_atA rfl 36 _ rfl (ad.add (i * 4)) rfl #[.int .i64 off, .slice B k eb, .bool fe, .int .i64 rd] _ HKC.out Try.underlying36 rfl (by kernel_rfl) ?_) | (refine wpList_store_new rfl 36 _ _ rfl wr #[.int .i64 0, .slice none 0 0, .bool false, .int .i64 0] #[.int .i64 off, .slice B k eb, .bool fe, .int .i64 rd] rfl rfl (by kernel_rfl) rfl (by simp [Value.oneCell']) ?_) | go_in)
      have F3 := Lib.hid (F2.out.alloc #[.int .i64 off, .slice B k eb, .bool fe, .int .i64 rd] 36)
      obtain ⟨go, hgo⟩ : ∃ go, wr.heap.size = go := ⟨_, rfl⟩
      rw [hgo] at F3 ⊢
      generalize wr.alloc (.cells #[.int .i64 off, .slice B k eb, .bool fe, .int .i64 rd] 36) = w5 at F3 ⊢
      clear HKC F2 hgo
      have F4 : Hid (Frm w w5 [(go, #[.int .i64 off, .slice B k eb, .bool fe, .int .i64 rd], 36), (g1, (rqC (conc x) vD vA), 29)] [([.slice B k eb], [bytesD D]), ((rqC (conc x) vD vA).toList, rqD (conc x))]) := F3
      clear F3
      obtain ⟨o0, o1, o2, o3⟩ := four_at (F4.out.at (i := 0) rfl)
      by_cases hrd : 0 < rd
      · obtain ⟨y, hy⟩ : ∃ y, readX x rd = y := ⟨_, rfl⟩
        obtain ⟨L, hL⟩ : ∃ L, x.data.take (cutX x rd) = L := ⟨_, rfl⟩
        have HOY : Hid (OkX y) := by rw [← hy]; exact read_ok HOX.out rd
        obtain ⟨md, hmd⟩ : ∃ md, x.data.length = md := ⟨_, rfl⟩
        have hmd2 : md ≤ 256 := by rw [← hmd]; exact HOX.out.data
        have hcut : cutX x rd = (min rd (md : Int)).toNat := by unfold cutX; rw [hmd]; omega
        obtain ⟨kk, hkk⟩ : ∃ kk : Nat, min rd (md : Int) = (kk : Int) := ⟨(min rd (md : Int)).toNat, by omega⟩
        have HLL : Hid (L.length = kk) := by show _ = _; rw [← hL, List.length_take, hcut, hmd]; omega
        have HYL : Hid ((conc y).data.length = md - kk) := by show (y.data).length = _; rw [← hy]; show (x.data.drop _).length = _; rw [List.length_drop, hcut, hmd]; omega
        have HXL : Hid ((conc x).data.length = md) := hmd
        have HCA := Lib.hid (read_any x (rqC (conc x) vD vA) _ rd w5 (F4.out.val (i := 1) rfl) HOX.out HRD.out)
        rw [hy, hL] at HCA
        clear hy hL hmd hcut
        go_wp2_with (refine wpList_load_row rfl 29 _ rfl g1 rfl 29 (rqC (conc x) vD vA) (0, 0) _ (F4.out.at (i := 1) rfl) Try.underlying29 rfl (by kernel_rfl) ?_)
        refine HCA.out.mono ?_
        rintro e w6 ⟨cs', vb, rfl, hr, hrb, hb⟩
        obtain ⟨vD', vA', rfl, h1⟩ := rq_of hr
        have H1 := Lib.hid h1
        have F5 := Lib.hid ((F4.out.res hb hr).more F4.out (us := [vb]) (ds := [bytesD L]) (rvs_cons.2 ⟨hrb, rvs_nil⟩))
        clear h1 hr hrb hb F4 o0 o1 o2 o3 HCA
        go_upto_region 9 with (first | (refine wpList_store_new rfl 29 _ _ rfl w6 #[.int .u32 0, .slice none 0 0, .slice none 0 0, .bool false, .int .u32 0, .bool false] (rqC (conc y) vD' vA') rfl rfl (by kernel_rfl) rfl H1.out ?_) | go_in)
        have F6 : Hid (Frm w (w6.alloc (.cells (rqC (conc y) vD' vA') 29)) [(w6.heap.size, (rqC (conc y) vD' vA'), 29), (go, #[.int .i64 off, .slice B k eb, .bool fe, .int .i64 rd], 36), (g1, (rqC (conc x) vD vA), 29)] [([vb], [bytesD L]), ((rqC (conc y) vD' vA').toList, rqD (conc y)), ([.slice B k eb], [bytesD D]), ((rqC (conc x) vD vA).toList, rqD (conc x))]) := Lib.hid (F5.out.alloc _ _)
        obtain ⟨gn, hgn⟩ : ∃ gn, w6.heap.size = gn := ⟨_, rfl⟩
        rw [hgn] at F6 ⊢
        generalize w6.alloc (.cells (rqC (conc y) vD' vA') 29) = w7 at F6 ⊢
        clear F5 hgn
        obtain ⟨Ab, cb, e1, -⟩ := rv_bytes.1 (rvs_cons.1 (F6.out.val (i := 0) rfl)).1
        rw [HLL.out] at e1
        subst e1
        obtain ⟨An, cn, e1, -⟩ := rv_bytes.1 (rq_data (F6.out.val (i := 1) rfl))
        rw [HYL.out] at e1
        subst e1
        obtain ⟨Ax, cx, e1, -⟩ := rv_bytes.1 (rq_data (F6.out.val (i := 3) rfl))
        rw [HXL.out] at e1
        subst e1
        obtain ⟨o0, o1, o2, o3⟩ := four_at (F6.out.at (i := 1) rfl)
        obtain ⟨x0, x1, x2, x3, x4, x5⟩ := rq_cells (F6.out.at (i := 2) rfl)
        obtain ⟨y0, y1, y2, y3, y4, y5⟩ := rq_cells (F6.out.at (i := 0) rfl)
        obtain ⟨j, hj⟩ : ∃ j, md - kk = j := ⟨_, rfl⟩
        rw [hj] at y1 F6
        rcases Int.lt_trichotomy rd (md : Int) with hr | hr | hr
        · have hk1 : rd = (kk : Int) := by omega
          subst hk1
          have hjI : (md : Int) - (kk : Int) = (j : Int) := by omega
          clear hkk
          go_upto_region 11 with (fail)
          clear o0 o1 o2 o3 x0 x1 x2 x3 x4 x5 y0 y1 y2 y3 y4 y5
          have H1 := Lib.hid (rq_ones (F6.out.val (i := 1) rfl))
          go_wp2_with (first | (refine wpList_load_row rfl 29 _ rfl gn rfl 29 (rqC (conc y) (.slice An j cn) vA') (0, 0) _ (F6.out.at (i := 0) rfl) Try.underlying29 rfl (by kernel_rfl) ?_) | (refine wpList_store_row rfl 29 _ _ rfl g1 (rqC (conc y) (.slice An j cn) vA') rfl rfl 29 (rqC (conc x) (.slice Ax md cx) vA) (F6.out.at (i := 2) rfl) (by kernel_rfl) rfl H1.out ?_))
          have F7 := Lib.hid (F6.out.put (i := 2) rfl (rqC (conc y) (.slice An j cn) vA'))
          have F8 : Hid (Frm w (w7.setRow g1 (rqC (conc y) (.slice An j cn) vA')) [(g1, (rqC (conc y) (.slice An j cn) vA'), 29)] [((rqC (conc y) (.slice An j cn) vA').toList, rqD (conc y))]) := Lib.hid (F7.out.drop 2 rfl (fun p hp => by simp only [List.mem_cons, List.not_mem_nil, or_false] at hp ⊢; rcases hp with rfl; simp))
          clear F6 F7 H1
          go_roundw
          case rel => exact ⟨i + 1, y, .slice An j cn, vA', by omega, by go_num, HOY, F8⟩
          case measure => simp [intOf]; omega
        · obtain rfl : kk = md := by omega
          obtain rfl : j = 0 := by omega
          subst hr
          clear hkk
          go_upto_region 11 with (fail)
          clear o0 o1 o2 o3 x0 x1 x2 x3 x4 x5 y0 y1 y2 y3 y4 y5
          have H1 := Lib.hid (rq_ones (F6.out.val (i := 1) rfl))
          go_wp2_with (first | (refine wpList_load_row rfl 29 _ rfl gn rfl 29 (rqC (conc y) (.slice An 0 cn) vA') (0, 0) _ (F6.out.at (i := 0) rfl) Try.underlying29 rfl (by kernel_rfl) ?_) | (refine wpList_store_row rfl 29 _ _ rfl g1 (rqC (conc y) (.slice An 0 cn) vA') rfl rfl 29 (rqC (conc x) (.slice Ax kk cx) vA) (F6.out.at (i := 2) rfl) (by kernel_rfl) rfl H1.out ?_))
          have F7 := Lib.hid (F6.out.put (i := 2) rfl (rqC (conc y) (.slice An 0 cn) vA'))
          have F8 : Hid (Frm w (w7.setRow g1 (rqC (conc y) (.slice An 0 cn) vA')) [(g1, (rqC (conc y) (.slice An 0 cn) vA'), 29)] [((rqC (conc y) (.slice An 0 cn) vA').toList, rqD (conc y))]) := Lib.hid (F7.out.drop 2 rfl (fun p hp => by simp only [List.mem_cons, List.not_mem_nil, or_false] at hp ⊢; rcases hp with rfl; simp))
          clear F6 F7 H1
          go_roundw
          case rel => exact ⟨i + 1, y, .slice An 0 cn, vA', by omega, by go_num, HOY, F8⟩
          case measure => simp [intOf]; omega
        · obtain rfl : kk = md := by omega
          obtain rfl : j = 0 := by omega
          clear hkk
          go_upto_region 11 with (fail)
          clear o0 o1 o2 o3 x0 x1 x2 x3 x4 x5 y0 y1 y2 y3 y4 y5
          have H1 := Lib.hid (rq_ones (F6.out.val (i := 1) rfl))
          go_wp2_with (first | (refine wpList_load_row rfl 29 _ rfl gn rfl 29 (rqC (conc y) (.slice An 0 cn) vA') (0, 0) _ (F6.out.at (i := 0) rfl) Try.underlying29 rfl (by kernel_rfl) ?_) | (refine wpList_store_row rfl 29 _ _ rfl g1 (rqC (conc y) (.slice An 0 cn) vA') rfl rfl 29 (rqC (conc x) (.slice Ax kk cx) vA) (F6.out.at (i := 2) rfl) (by kernel_rfl) rfl H1.out ?_))
          have F7 := Lib.hid (F6.out.put (i := 2) rfl (rqC (conc y) (.slice An 0 cn) vA'))
          have F8 : Hid (Frm w (w7.setRow g1 (rqC (conc y) (.slice An 0 cn) vA')) [(g1, (rqC (conc y) (.slice An 0 cn) vA'), 29)] [((rqC (conc y) (.slice An 0 cn) vA').toList, rqD (conc y))]) := Lib.hid (F7.out.drop 2 rfl (fun p hp => by simp only [List.mem_cons, List.not_mem_nil, or_false] at hp ⊢; rcases hp with rfl; simp))
          clear F6 F7 H1
          go_roundw
          case rel => exact ⟨i + 1, y, .slice An 0 cn, vA', by omega, by go_num, HOY, F8⟩
          case measure => simp [intOf]; omega
      · obtain ⟨AT, hAT⟩ : ∃ AT, addS x.next off = AT := ⟨_, rfl⟩
        have HWA : Hid (((conc x).next + off % 4294967296) % 4294967296 = AT) := by rw [← hAT]; exact wrap_add x.next off
        have HAU : Hid (U32 AT) := by rw [← hAT]; exact ⟨addS_ge _ _, addS_le _ _⟩
        have hD10 : D.length ≤ 1000 := by rw [HDK.out]; omega
        have htw := accept_twice HOX.out AT D fe hD10
        obtain ⟨y, hy⟩ : ∃ y, acceptX x AT D fe = y := ⟨_, rfl⟩
        rw [hy] at htw
        have HOY : Hid (OkX y) := by rw [← hy]; exact accept_ok HOX.out AT D fe
        have HCA := Lib.hid (accept_any x (rqC (conc x) vD vA) _ _ AT _ D fe w5 (F4.out.val (i := 1) rfl) HOX.out HAU.out (rvs_cons.1 (F4.out.val (i := 0) rfl)).1 hD10)
        have HCB := Lib.hid (fun w' cs S v S2 (hr : Rvs w' S cs.toList (rqD (conc y))) (hv : Rv w' S2 v (bytesD D)) => accept_any y cs S S2 AT v D fe w' hr HOY.out HAU.out hv hD10)
        rw [hy] at HCA
        rw [htw] at HCB
        obtain ⟨md, hmd⟩ : ∃ md, y.data.length = md := ⟨_, rfl⟩
        have hmd2 : md ≤ 256 := by rw [← hmd]; exact HOY.out.data
        have HYL : Hid ((conc y).data.length = md) := hmd
        have HWV : Hid (winX y = 256 - (md : Int)) := by show _ = _; unfold winX; rw [hmd]
        obtain ⟨na, hna⟩ : ∃ na, (conc y).ahead.length = na := ⟨_, rfl⟩
        have HNA := Lib.hid hna
        clear hy hAT htw hD10 hmd hna
        obtain ⟨x0, -⟩ := rq_cells (F4.out.at (i := 1) rfl)
        go_upto_region 13 with (fail)
        rw [HWA.out]
        clear x0 HWA
        go_wp2_with (refine wpList_load_row rfl 29 _ rfl g1 rfl 29 (rqC (conc x) vD vA) (0, 0) _ (F4.out.at (i := 1) rfl) Try.underlying29 rfl (by kernel_rfl) ?_)
        refine HCA.out.mono ?_
        rintro e w6 ⟨cs', rfl, hr, hb⟩
        obtain ⟨vD1, vA1, rfl, h1⟩ := rq_of hr
        have H1 := Lib.hid h1
        have F5 := Lib.hid (F4.out.res hb hr)
        clear h1 hr hb F4 o0 o1 o2 o3 HCA
        go_upto_region 14 with (first | (refine wpList_store_new rfl 29 _ _ rfl w6 #[.int .u32 0, .slice none 0 0, .slice none 0 0, .bool false, .int .u32 0, .bool false] (rqC (conc y) vD1 vA1) rfl rfl (by kernel_rfl) rfl H1.out ?_) | go_in)
        have F6 : Hid (Frm w (w6.alloc (.cells (rqC (conc y) vD1 vA1) 29)) [(w6.heap.size, (rqC (conc y) vD1 vA1), 29), (go, #[.int .i64 off, .slice B k eb, .bool fe, .int .i64 rd], 36), (g1, (rqC (conc x) vD vA), 29)] [((rqC (conc y) vD1 vA1).toList, rqD (conc y)), ([.slice B k eb], [bytesD D]), ((rqC (conc x) vD vA).toList, rqD (conc x))]) := Lib.hid (F5.out.alloc _ _)
        obtain ⟨gn, hgn⟩ : ∃ gn, w6.heap.size = gn := ⟨_, rfl⟩
        rw [hgn] at F6 ⊢
        generalize w6.alloc (.cells (rqC (conc y) vD1 vA1) 29) = w7 at F6 ⊢
        clear F5 hgn H1
        obtain ⟨o0, o1, o2, o3⟩ := four_at (F6.out.at (i := 1) rfl)
        go_wp2_with (refine wpList_load_row rfl 29 _ rfl gn rfl 29 (rqC (conc y) vD1 vA1) (0, 0) _ (F6.out.at (i := 0) rfl) Try.underlying29 rfl (by kernel_rfl) ?_)
        refine (HCB.out _ _ _ _ _ (F6.out.val (i := 0) rfl) (rvs_cons.1 (F6.out.val (i := 1) rfl)).1).mono ?_
        rintro e w8 ⟨cs', rfl, hr, hb⟩
        obtain ⟨vD2, vA2, rfl, h1⟩ := rq_of hr
        have H1 := Lib.hid h1
        have F7 := Lib.hid (F6.out.res hb hr)
        clear h1 hr hb F6 o0 o1 o2 o3 HCB
        go_upto_region 15 with (first | (refine wpList_store_new rfl 29 _ _ rfl w8 #[.int .u32 0, .slice none 0 0, .slice none 0 0, .bool false, .int .u32 0, .bool false] (rqC (conc y) vD2 vA2) rfl rfl (by kernel_rfl) rfl H1.out ?_) | go_in)
        have F8 : Hid (Frm w (w8.alloc (.cells (rqC (conc y) vD2 vA2) 29)) [(w8.heap.size, (rqC (conc y) vD2 vA2), 29), (gn, (rqC (conc y) vD1 vA1), 29), (go, #[.int .i64 off, .slice B k eb, .bool fe, .int .i64 rd], 36), (g1, (rqC (conc x) vD vA), 29)] [((rqC (conc y) vD2 vA2).toList, rqD (conc y)), ((rqC (conc y) vD1 vA1).toList, rqD (conc y)), ([.slice B k eb], [bytesD D]), ((rqC (conc x) vD vA).toList, rqD (conc x))]) := Lib.hid (F7.out.alloc _ _)
        obtain ⟨gm, hgm⟩ : ∃ gm, w8.heap.size = gm := ⟨_, rfl⟩
        rw [hgm] at F8 ⊢
        generalize w8.alloc (.cells (rqC (conc y) vD2 vA2) 29) = w9 at F8 ⊢
        clear F7 hgm H1
        obtain ⟨D2, e2, h1, -⟩ := rv_bytes.1 (rq_data (F8.out.val (i := 0) rfl))
        rw [HYL.out] at h1
        subst h1
        obtain ⟨D1, e1, h1, -⟩ := rv_bytes.1 (rq_data (F8.out.val (i := 1) rfl))
        rw [HYL.out] at h1
        subst h1
        obtain ⟨P2, f2, h1, -⟩ := pc_elem (rq_ahead (F8.out.val (i := 0) rfl))
        rw [HNA.out] at h1
        subst h1
        obtain ⟨P1, f1, h1, -⟩ := pc_elem (rq_ahead (F8.out.val (i := 1) rfl))
        rw [HNA.out] at h1
        subst h1
        have HV1 := Lib.hid (conv_bytes (rq_data (F8.out.val (i := 1) rfl)))
        have HV2 := Lib.hid (conv_bytes (rq_data (F8.out.val (i := 0) rfl)))
        have HX1 := Lib.hid (F8.out.at (i := 1) rfl)
        have HX2 := Lib.hid (F8.out.at (i := 0) rfl)
        have HWI := Lib.hid (fun w' (hb : Below w9.heap.size w9 w') => window_any y _ _ w' (rvs_call (F8.out.val (i := 1) rfl) hb) HOY.out)
        rw [HWV.out] at HWI
        go_upto_region 15 with (fail)
        refine wp_region_quiet_below (by kernel_rfl) (by kernel_rfl) ?_
        (first | go_big_quiet_step (fail) | quiet_step (fail))
        (refine wpQuiet_step (fun K hK => ?_); refine quiet_load_cell (by kernel_rfl) 26 _ rfl ((⟨gm, 0, none⟩ : Addr).add 1) (by first | rfl | (simp [Act.eval, Addr.add_mid])) (.slice D2 md e2) _ (var_cell HX2.out 1 rfl) Try.underlying26 rfl ?_; refine hK _ ?_; clear hK K; go_frame)
        (refine wpQuiet_step (fun K hK => ?_); refine quiet_conv (by kernel_rfl) 26 9 _ rfl (.slice D2 md e2) (.string ⟨(conc y).data.toArray⟩) rfl (fun w9 hr9 => HV2.out w9 (reg_below hr9)) ?_; refine hK _ ?_; clear hK K; go_frame)
        (first | go_big_quiet_step (fail) | quiet_step (fail))
        (refine wpQuiet_step (fun K hK => ?_); refine quiet_load_cell (by kernel_rfl) 26 _ rfl ((⟨gn, 0, none⟩ : Addr).add 1) (by first | rfl | (simp [Act.eval, Addr.add_mid])) (.slice D1 md e1) _ (var_cell HX1.out 1 rfl) Try.underlying26 rfl ?_; refine hK _ ?_; clear hK K; go_frame)
        (refine wpQuiet_step (fun K hK => ?_); refine quiet_conv (by kernel_rfl) 26 9 _ rfl (.slice D1 md e1) (.string ⟨(conc y).data.toArray⟩) rfl (fun w9 hr9 => HV1.out w9 (reg_below hr9)) ?_; refine hK _ ?_; clear hK K; go_frame)
        (first | go_big_quiet_step (fail) | quiet_step (fail))
        (first | go_big_quiet_step (fail) | quiet_step (fail))
        (first | go_big_quiet_step (fail) | quiet_step (fail))
        (refine wpQuiet_step (fun K hK => ?_); refine quiet_load_cell (by kernel_rfl) 22 _ rfl (⟨gm, 0, none⟩ : Addr) (by first | rfl | (simp [Act.eval, Addr.add_mid])) (.int .u32 (conc y).next) _ (var_cell HX2.out 0 rfl) Try.underlying22 rfl ?_; refine hK _ ?_; clear hK K; go_frame)
        (first | go_big_quiet_step (fail) | quiet_step (fail))
        (refine wpQuiet_step (fun K hK => ?_); refine quiet_load_cell (by kernel_rfl) 22 _ rfl (⟨gn, 0, none⟩ : Addr) (by first | rfl | (simp [Act.eval, Addr.add_mid])) (.int .u32 (conc y).next) _ (var_cell HX1.out 0 rfl) Try.underlying22 rfl ?_; refine hK _ ?_; clear hK K; go_frame)
        (first | go_big_quiet_step (fail) | quiet_step (fail))
        (first | go_big_quiet_step (fail) | quiet_step (fail))
        (first | go_big_quiet_step (fail) | quiet_step (fail))
        (first | go_big_quiet_step (fail) | quiet_step (fail))
        (refine wpQuiet_step (fun K hK => ?_); refine quiet_load_cell (by kernel_rfl) 4 _ rfl ((⟨gm, 0, none⟩ : Addr).add 5) (by first | rfl | (simp [Act.eval, Addr.add_mid])) (.bool (conc y).done) _ (var_cell HX2.out 5 rfl) Try.underlying4 rfl ?_; refine hK _ ?_; clear hK K; go_frame)
        (first | go_big_quiet_step (fail) | quiet_step (fail))
        (refine wpQuiet_step (fun K hK => ?_); refine quiet_load_cell (by kernel_rfl) 4 _ rfl ((⟨gn, 0, none⟩ : Addr).add 5) (by first | rfl | (simp [Act.eval, Addr.add_mid])) (.bool (conc y).done) _ (var_cell HX1.out 5 rfl) Try.underlying4 rfl ?_; refine hK _ ?_; clear hK K; go_frame)
        (first | go_big_quiet_step (fail) | quiet_step (fail))
        (first | go_big_quiet_step (fail) | quiet_step (fail))
        (first | go_big_quiet_step (fail) | quiet_step (fail))
        (first | go_big_quiet_step (fail) | quiet_step (fail))
        (refine wpQuiet_step (fun K hK => ?_); refine quiet_load_cell (by kernel_rfl) 4 _ rfl ((⟨gm, 0, none⟩ : Addr).add 3) (by first | rfl | (simp [Act.eval, Addr.add_mid])) (.bool (conc y).known) _ (var_cell HX2.out 3 rfl) Try.underlying4 rfl ?_; refine hK _ ?_; clear hK K; go_frame)
        (first | go_big_quiet_step (fail) | quiet_step (fail))
        (refine wpQuiet_step (fun K hK => ?_); refine quiet_load_cell (by kernel_rfl) 4 _ rfl ((⟨gn, 0, none⟩ : Addr).add 3) (by first | rfl | (simp [Act.eval, Addr.add_mid])) (.bool (conc y).known) _ (var_cell HX1.out 3 rfl) Try.underlying4 rfl ?_; refine hK _ ?_; clear hK K; go_frame)
        (first | go_big_quiet_step (fail) | quiet_step (fail))
        (first | go_big_quiet_step (fail) | quiet_step (fail))
        (first | go_big_quiet_step (fail) | quiet_step (fail))
        (first | go_big_quiet_step (fail) | quiet_step (fail))
        (refine wpQuiet_step (fun K hK => ?_); refine quiet_load_cell (by kernel_rfl) 27 _ rfl ((⟨gm, 0, none⟩ : Addr).add 2) (by first | rfl | (simp [Act.eval, Addr.add_mid])) (.slice P2 na f2) _ (var_cell HX2.out 2 rfl) Try.underlying27 rfl ?_; refine hK _ ?_; clear hK K; go_frame)
        (first | go_big_quiet_step (fail) | quiet_step (fail))
        (first | go_big_quiet_step (fail) | quiet_step (fail))
        (refine wpQuiet_step (fun K hK => ?_); refine quiet_load_cell (by kernel_rfl) 27 _ rfl ((⟨gn, 0, none⟩ : Addr).add 2) (by first | rfl | (simp [Act.eval, Addr.add_mid])) (.slice P1 na f1) _ (var_cell HX1.out 2 rfl) Try.underlying27 rfl ?_; refine hK _ ?_; clear hK K; go_frame)
        (first | go_big_quiet_step (fail) | quiet_step (fail))
        (first | go_big_quiet_step (fail) | quiet_step (fail))
        (first | go_big_quiet_step (fail) | quiet_step (fail))
        (first | go_big_quiet_step (fail) | quiet_step (fail))
        (refine wpQuiet_step (fun K hK => ?_); refine quiet_load_at (by kernel_rfl) 29 _ rfl (⟨gn, 0, none⟩ : Addr) (by first | rfl | (simp [Act.eval, Addr.add_mid])) (rqC (conc y) (.slice D1 md e1) (.slice P1 na f1)) _ (fun w9 hr9 => var_all HX1.out w9 (reg_below hr9)) Try.underlying29 rfl (by kernel_rfl) ?_; refine hK _ ?_; clear hK K; go_frame)
        quiet_step (first | (go_at_call 18; exact Calls.regrown_of (HWI.out _ (below_regrown _ _ _))))
        (first | go_big_quiet_step (fail) | quiet_step (fail))
        (refine wpQuiet_step (fun K hK => ?_); refine quiet_load_cell (by kernel_rfl) 26 _ rfl ((⟨gn, 0, none⟩ : Addr).add 1) (by first | rfl | (simp [Act.eval, Addr.add_mid])) (.slice D1 md e1) _ (var_cell HX1.out 1 rfl) Try.underlying26 rfl ?_; refine hK _ ?_; clear hK K; go_frame)
        (first | go_big_quiet_step (fail) | quiet_step (fail))
        (first | go_big_quiet_step (fail) | quiet_step (fail))
        (first | go_big_quiet_step (fail) | quiet_step (fail))
        (first | go_big_quiet_step (fail) | quiet_step (fail))
        refine wpQuiet_nil ?_
        intro w9 hw9
        obtain ⟨⟨dq, osq⟩, rfl⟩ := hw9
        have HB9 := Lib.hid ((Below.refl w9.heap.size w9).trans ((below_regrown w9 dq osq).mono (Below.refl w9.heap.size w9).size))
        generalize Sort.grow (redrawn w9 dq) osq = w9z at *
        have F9 := Lib.hid (F8.out.call HB9.out)
        clear F8 HB9 HV1 HV2 HX1 HX2 HWI
        have H1 := Lib.hid (rq_ones (F9.out.val (i := 1) rfl))
        go_upto_region 17 with (fail)
        go_wp2_with (first | (refine wpList_load_row rfl 29 _ rfl gn rfl 29 (rqC (conc y) (.slice D1 md e1) (.slice P1 na f1)) (0, 0) _ (F9.out.at (i := 1) rfl) Try.underlying29 rfl (by kernel_rfl) ?_) | (refine wpList_store_row rfl 29 _ _ rfl g1 (rqC (conc y) (.slice D1 md e1) (.slice P1 na f1)) rfl rfl 29 (rqC (conc x) vD vA) (F9.out.at (i := 3) rfl) (by kernel_rfl) rfl H1.out ?_))
        have F10 := Lib.hid (F9.out.put (i := 3) rfl (rqC (conc y) (.slice D1 md e1) (.slice P1 na f1)))
        have F11 : Hid (Frm w (w9z.setRow g1 (rqC (conc y) (.slice D1 md e1) (.slice P1 na f1))) [(g1, (rqC (conc y) (.slice D1 md e1) (.slice P1 na f1)), 29)] [((rqC (conc y) (.slice D1 md e1) (.slice P1 na f1)).toList, rqD (conc y))]) := Lib.hid (F10.out.drop 3 rfl (fun p hp => by simp only [List.mem_cons, List.not_mem_nil, or_false] at hp ⊢; rcases hp with rfl; simp))
        clear F9 F10 H1
        go_roundw
        case rel => exact ⟨i + 1, y, .slice D1 md e1, .slice P1 na f1, by omega, by go_num, HOY, F11⟩
        case measure => simp [intOf]; omega
    · obtain rfl : i = m := by omega
      have HBE := Lib.hid F1.out.below
      clear F1
      go_wp2
      go_ret
      exact ⟨rfl, HBE.out⟩
end Go.Proofs.Ytdgfhcojmfgimaa
