/-
  The law SendqStream: every number, every slice of acts.
-/
import Derived.Test.YtebflcpoecolbaaSm
import Derived.Deep.CutBlock
namespace Go.Proofs.Ytebflcpoecolbaa
open Go.RowKit

set_option maxRecDepth 100000 in
set_option maxHeartbeats 40000000 in
theorem stream_any (n : Int) (v : Value) (l : List Op18) (w : World) (hn : U32 n) (hv : Rv w (Lt w.heap.size) v (rowsD 4 op18D l)) (hO : ∀ o ∈ l, ok18 o) (hl : l.length ≤ 140737488351232) :
    Calls Try.prog 4 #[.int .u32 n, v] w fun e w' => e = .returned (.bool true) ∧ Below w.heap.size w w' := by
  have HRV := Lib.hid hv
  have HNN := Lib.hid hn
  have HO := Lib.hid hO
  obtain ⟨A, c, rfl, hnc, hcm, hel⟩ := op_at hv
  have HEL := Lib.hid hel
  obtain ⟨m, hm⟩ : ∃ m, l.length = m := ⟨_, rfl⟩
  rw [hm] at HRV hnc hl ⊢
  have HM := Lib.hid hm
  have hcm2 : c ≤ 9223372036854775807 := by unfold maxLen at hcm; omega
  clear hm hcm hn hO hv hel
  go_enter Try.func4, Try.ntmps4
  go_wp2_with fail
  refine (lives18_any _).mono ?_
  rintro e w1 ⟨rfl, hb1⟩
  have HB1 := Lib.hid hb1
  have HRV1 : Hid (Rv w1 (Lt w1.heap.size) (.slice A m c) (rowsD 4 op18D l)) := (HRV.out.kept hb1 (fun _ h => h)).wide fun b hb => Nat.lt_of_lt_of_le hb hb1.size
  have HFT := Lib.hid (fits_any _ l w1 HRV1.out HO.out (by rw [HM.out]; exact hl))
  obtain ⟨ft, hft⟩ : ∃ ft, fitsX l = ft := ⟨_, rfl⟩
  have HFX := Lib.hid hft
  rw [hft] at HFT
  clear hb1 hft
  go_wp2_with fail
  refine HFT.out.mono ?_
  rintro e w2 ⟨rfl, hb2⟩
  have HB2 := Lib.hid (HB1.out.trans (hb2.mono HB1.out.size))
  clear hb2 HFT HRV1
  cases ft
  · go_wp2_with fail
    refine (lives18_any _).mono ?_
    rintro e w3 ⟨rfl, hb3⟩
    have HB3 := Lib.hid (HB2.out.trans (hb3.mono HB2.out.size))
    clear hb3
    go_wp2
    go_ret
    exact ⟨rfl, HB3.out⟩
  have h60 := (fits_iff.1 HFX.out).2
  have HF4 := Lib.hid (fits_iff.1 HFX.out).1
  rw [HM.out] at h60
  have HOK0 := Lib.hid (new_okS HNN.out)
  go_wp2_with fail
  refine (new18_any n _ HNN.out).mono ?_
  rintro e w3 ⟨cs1, rfl, hr, hb⟩
  have HLN : Hid ((newS n).all.length ≤ 400 * 0) := Nat.le_refl _
  have HFN0 : Hid ((newS n).first = n) := rfl
  have E1 : Hid (((.string ⟨([]).toArray⟩) : Value) = (.string ⟨((newS n).all).toArray⟩)) := rfl
  have E2 : Hid (((.string ⟨([]).toArray⟩) : Value) = (.string ⟨(sentS (newS n)).toArray⟩)) := rfl
  have E3 : Hid ((Value.int .i64 0) = .int .i64 ((newS n).acked : Int)) := rfl
  have E4 : Hid ((Value.bool false) = .bool (newS n).fsent) := rfl
  obtain ⟨X0, hX0⟩ : ∃ X0, newS n = X0 := ⟨_, rfl⟩
  rw [hX0] at hr HOK0 HLN HFN0 E1 E2 E3 E4
  obtain ⟨vD, rfl, -, h1⟩ := sq_of hr
  have HA1 := Lib.hid h1
  have F1 := Lib.hid ((Frm.start HB2.out).new hb hr)
  clear hr hb h1 hX0
  go_upto_region 4 with (first | (refine wpList_store_new rfl 28 _ _ rfl w3 #[.int .u32 0, .slice none 0 0, .int .i64 0, .bool false, .bool false, .bool false] (sqC (concS X0) vD) rfl rfl (by kernel_rfl) rfl HA1.out ?_) | go_in)
  have F3 := Lib.hid (F1.out.alloc (sqC (concS X0) vD) 28)
  obtain ⟨g1, hg1⟩ : ∃ g1, w3.heap.size = g1 := ⟨_, rfl⟩
  rw [hg1] at F3 ⊢
  change Code.wp _ _ _ _ (w3.alloc (.cells (sqC (concS X0) vD) 28))
  generalize w3.alloc (.cells (sqC (concS X0) vD) 28) = w5 at F3 ⊢
  have F6 : Hid (Frm w w5 [(g1, (sqC (concS X0) vD), 28)] [((sqC (concS X0) vD).toList, sqD (concS X0))]) := F3
  clear F1 F3 hg1 HA1 HB1 HB2
  go_wp2
  go_loopw [6, 7, 8, 9, 40] (fun t6 t7 t8 t9 t40 wr => ∃ (i : Nat) (x : Sx) (a : Value), i ≤ m ∧ t40 = .int .i64 (i : Int) ∧ t6 = (.string ⟨(x.all).toArray⟩) ∧ t7 = (.string ⟨(sentS x).toArray⟩) ∧ t8 = .int .i64 (x.acked : Int) ∧ t9 = .bool x.fsent ∧ Hid (OkS x) ∧ Hid (x.first = n) ∧ Hid (x.all.length ≤ 400 * i) ∧ Hid (Frm w wr [(g1, (sqC (concS x) a), 28)] [((sqC (concS x) a).toList, sqD (concS x))])) (fun _ _ _ _ t40 _ => m - (intOf t40).toNat)
  case atStart => exact ⟨0, X0, vD, Nat.zero_le _, rfl, E1.out, E2.out, E3.out, E4.out, HOK0, HFN0, HLN, F6⟩
  case round =>
    clear F6 HOK0 HLN HFN0 E1 E2 E3 E4
    obtain ⟨i, x, vD, hi, rfl, rfl, rfl, rfl, rfl, HOX, HFN, HXL, F1⟩ := hrel
    by_cases hlt : i < m
    · obtain ⟨o, ho⟩ : ∃ o, l[i]? = some o := ⟨_, List.getElem?_eq_getElem (by rw [HM.out]; exact hlt)⟩
      have HMO := Lib.hid (List.mem_of_getElem? ho)
      obtain ⟨ad, B, eb, rfl, hrb, hcl⟩ := HEL.out i o ho
      have HOO := Lib.hid (HO.out o HMO.out)
      have hk4 := HF4.out o HMO.out
      obtain ⟨kd, D, nn, sz⟩ := o
      dsimp only at hrb hcl hk4
      obtain ⟨k, hk⟩ : ∃ k, D.length = k := ⟨_, rfl⟩
      have HDK := Lib.hid hk
      rw [hk] at hrb hcl hk4
      have HKC : Hid (∀ (j : Nat) u, (#[.int .i64 kd, .slice B k eb, .int .i64 nn, .int .i64 sz] : Array Value)[j]? = some u → wr.cell? ((ad.add (i * 4)).add j) = some u) := fun j u hj => (F1.out.below.cell (cell_lt (hcl j u hj))).trans (hcl j u hj)
      have F2 := Lib.hid (F1.out.add (us := [.slice B k eb]) (ds := [bytesD D]) (F1.out.old (rvs_cons.2 ⟨hrb, rvs_nil⟩)))
      clear ho hrb hcl hk HMO F1
      go_upto_region 8 with (first | (refine wpList_load_atA rfl 33 _ rfl (ad.add (i * 4)) rfl #[.int .i64 kd, .slice B k eb, .int .i64 nn, .int .i64 sz] _ HKC.out Try.underlying33 rfl (by kernel_rfl) ?_) | (refine wpList_store_new rfl 33 _ _ rfl wr #[.int .i64 0, .slice none 0 0, .int .i64 0, .int .i64 0] #[.int .i64 kd, .slice B k eb, .int .i64 nn, .int .i64 sz] rfl rfl (by kernel_rfl) rfl (by simp [Value.oneCell']) ?_) | go_in)
      have F3 := Lib.hid (F2.out.alloc #[.int .i64 kd, .slice B k eb, .int .i64 nn, .int .i64 sz] 33)
      obtain ⟨go, hgo⟩ : ∃ go, wr.heap.size = go := ⟨_, rfl⟩
      rw [hgo] at F3 ⊢
      change Code.wp _ _ _ _ (wr.alloc (.cells #[.int .i64 kd, .slice B k eb, .int .i64 nn, .int .i64 sz] 33))
      generalize wr.alloc (.cells #[.int .i64 kd, .slice B k eb, .int .i64 nn, .int .i64 sz] 33) = w5 at F3 ⊢
      clear HKC F2 hgo
      have hxl := HXL.out
      have HN := Lib.hid HOO.out.2.2.1
      have HSZ := Lib.hid HOO.out.2.2.2
      obtain ⟨hkk, hk7⟩ := kindS_eq kd
      obtain ⟨kk, hkq⟩ : ∃ kk, kindS kd = kk := ⟨_, rfl⟩
      rw [hkq] at hkk hk7
      obtain ⟨o0, o1, o2, o3⟩ := four_at (F3.out.at (i := 0) rfl)
      have HSL : Hid (x.all.length ≤ 1000000) := by show _ ≤ _; omega
      have HSN := Lib.hid HOX.out.sent
      have HLEN := Lib.hid (sent_len HOX.out)
      have HAK := Lib.hid (act_okS HOX.out HSL.out)
      clear hkq HOO
      go_upto_block 2 with (fail)
      go_cut [6, 7, 8, 9] (fun t6 t7 t8 t9 wx => ∃ (y : Sx) (a : Value), t6 = (.string ⟨(y.all).toArray⟩) ∧ t7 = (.string ⟨(sentS y).toArray⟩) ∧ t8 = .int .i64 (y.acked : Int) ∧ t9 = .bool y.fsent ∧ Hid (OkS y) ∧ Hid (y.first = n) ∧ Hid (y.all.length ≤ 400 * (i + 1)) ∧ Hid (Frm w wx [(go, #[.int .i64 kd, .slice B k eb, .int .i64 nn, .int .i64 sz], 33), (g1, (sqC (concS y) a), 28)] [((sqC (concS y) a).toList, sqD (concS y))]))
      case first =>
        obtain rfl | rfl | rfl | rfl | rfl | rfl | rfl : kk = 0 ∨ kk = 1 ∨ kk = 2 ∨ kk = 3 ∨ kk = 4 ∨ kk = 5 ∨ kk = 6 := by omega
        · as_aux_lemma =>
            have HD10 : Hid (D.length ≤ 1000) := by show _ ≤ _; rw [HDK.out]; omega
            have HCA := Lib.hid (fun w' S S2 v (hr : Rvs w' S (sqC (concS x) vD).toList (sqD (concS x))) (hv : Rv w' S2 v (bytesD D)) => write18_any x (sqC (concS x) vD) S S2 v D w' hr HOX.out hv HD10.out)
            have HOY := Lib.hid (write_okS HOX.out D)
            have HY1 : Hid ((writeS x D).all = x.all ++ D.take (writeN x D)) := rfl
            have HY2 := Lib.hid (write_sent HOX.out D)
            have HY3 : Hid ((writeS x D).acked = x.acked ∧ (writeS x D).fsent = x.fsent ∧ (writeS x D).first = x.first) := ⟨rfl, rfl, rfl⟩
            have hqk : writeN x D ≤ k := by rw [← HDK.out]; exact Nat.min_le_left ..
            obtain ⟨q, hq⟩ : ∃ q, writeN x D = q := ⟨_, rfl⟩
            rw [hq] at HCA HY1 hqk
            obtain ⟨y, hy⟩ : ∃ y, writeS x D = y := ⟨_, rfl⟩
            rw [hy] at HCA HOY HY1 HY2 HY3
            have HYL : Hid (y.all.length ≤ 400 * (i + 1)) := by
              show _ ≤ _
              rw [HY1.out, List.length_append, List.length_take]
              omega
            clear hy hq HN HSZ
            go_wp2_with (refine wpList_load_row rfl 28 _ rfl g1 rfl 28 (sqC (concS x) vD) (0, 0) _ (F3.out.at (i := 1) rfl) Try.underlying28 rfl (by kernel_rfl) ?_)
            refine (HCA.out _ _ _ _ (F3.out.val (i := 1) rfl) (rvs_cons.1 (F3.out.val (i := 0) rfl)).1).mono ?_
            rintro e w6 ⟨cs', rfl, hr, hb⟩
            obtain ⟨vE, rfl, -, h1⟩ := sq_of hr
            have H1 := Lib.hid h1
            have F4 := Lib.hid (F3.out.res hb hr)
            clear h1 hr hb F3 o0 o1 o2 o3 HCA
            obtain ⟨o0, o1, o2, o3⟩ := four_at (F4.out.at (i := 0) rfl)
            go_upto_region 12 with (first | (refine wpList_store_new rfl 28 _ _ rfl w6 #[.int .u32 0, .slice none 0 0, .int .i64 0, .bool false, .bool false, .bool false] (sqC (concS y) vE) rfl rfl (by kernel_rfl) rfl H1.out ?_) | go_in)
            have F5 := Lib.hid (F4.out.alloc (sqC (concS y) vE) 28)
            obtain ⟨ga, hga⟩ : ∃ g, w6.heap.size = g := ⟨_, rfl⟩
            rw [hga] at F5 ⊢
            change Code.wp _ _ _ _ (w6.alloc (.cells (sqC (concS y) vE) 28))
            generalize w6.alloc (.cells (sqC (concS y) vE) 28) = w7 at F5 ⊢
            clear F4 hga o0 o1 o2 o3
            go_upto_region 13 with (first | (refine wpList_load_row rfl 28 _ rfl ga rfl 28 (sqC (concS y) vE) (0, 0) _ (F5.out.at (i := 0) rfl) Try.underlying28 rfl (by kernel_rfl) ?_) | (refine wpList_store_row rfl 28 _ _ rfl g1 (sqC (concS y) vE) rfl rfl 28 (sqC (concS x) vD) (F5.out.at (i := 2) rfl) (by kernel_rfl) rfl H1.out ?_) | go_in)
            have F6 : Hid (Frm w (w7.setRow g1 (sqC (concS y) vE)) [(ga, (sqC (concS y) vE), 28), (go, #[.int .i64 kd, .slice B k eb, .int .i64 nn, .int .i64 sz], 33), (g1, (sqC (concS y) vE), 28)] [((sqC (concS y) vE).toList, sqD (concS y)), ([.slice B k eb], [bytesD D]), ((sqC (concS x) vD).toList, sqD (concS x))]) := Lib.hid (F5.out.put (i := 2) rfl _)
            generalize w7.setRow g1 (sqC (concS y) vE) = w8 at F6 ⊢
            clear F5 H1
            have hqe : q ≤ eb := by
              obtain ⟨A', c', e1, -, -, h5, -⟩ := rv_bytes.1 (rvs_cons.1 (F6.out.val (i := 1) rfl)).1
              injection e1 with _ _ e3
              have h6 : D.length = k := HDK.out
              omega
            have heb : eb ≤ 9223372036854775807 := by
              obtain ⟨A', c', e1, -, -, -, h5⟩ := rv_bytes.1 (rvs_cons.1 (F6.out.val (i := 1) rfl)).1
              injection e1 with _ _ e3
              unfold maxLen at h5
              omega
            have hcv := byt_text (byt_take (rvs_cons.1 (F6.out.val (i := 1) rfl)).1 q hqk HDK.out) w8 (Below.refl _ _)
            have HF9 : Hid (Frm w w8 [(go, #[.int .i64 kd, .slice B k eb, .int .i64 nn, .int .i64 sz], 33), (g1, (sqC (concS y) vE), 28)] [((sqC (concS y) vE).toList, sqD (concS y))]) := Lib.hid (F6.out.drop 1 rfl (fun p hp => by simp only [List.mem_cons, List.not_mem_nil, or_false] at hp ⊢; rcases hp with rfl; simp))
            obtain ⟨o0, o1, o2, o3⟩ := four_at (F6.out.at (i := 1) rfl)
            have HE6 : Hid ((.string ((⟨x.all.toArray⟩ : ByteArray) ++ ⟨(D.take q).toArray⟩) : Value) = (.string ⟨(y.all).toArray⟩)) := by show _ = _; rw [txt_add, HY1.out]
            clear F6
            go_wp2
            go_meet
            case rel => exact ⟨y, vE, HE6.out, by rw [HY2.out], by rw [HY3.out.1], by rw [HY3.out.2.1], HOY, Lib.hid (HY3.out.2.2.trans HFN.out), HYL, HF9⟩
        · as_aux_lemma =>
            obtain ⟨a, ld, hP, hl2, hsn, hsq⟩ := next_data HOX.out nn sz
            have HCA := Lib.hid (next18_any x (sqC (concS x) vD) _ nn sz w5 (F3.out.val (i := 1) rfl) HOX.out HN.out HSZ.out)
            rw [hP] at HCA
            have HOY := Lib.hid (next_okS HOX.out nn sz)
            have HY1 : Hid ((nextS x nn sz).all = x.all ∧ (nextS x nn sz).acked = x.acked ∧ (nextS x nn sz).fsent = (x.fsent || nextE x nn sz) ∧ (nextS x nn sz).first = x.first) := ⟨rfl, rfl, rfl, rfl⟩
            have HY2 := Lib.hid hsn
            have HFR := Lib.hid (fun ho => next_free HOX.out (u := nn) (v := sz) ho)
            have HSQ := Lib.hid hsq
            have HNE := Lib.hid (fun h => next_noE (x := x) (window := nn) (mss := sz) h)
            generalize nextE x nn sz = en at HCA HY1 HNE
            generalize nextO x nn sz = ok at HCA HFR HSQ HNE
            obtain ⟨y, hy⟩ : ∃ y, nextS x nn sz = y := ⟨_, rfl⟩
            rw [hy] at HCA HOY HY1 HY2
            have HYL : Hid (y.all.length ≤ 400 * (i + 1)) := by
              show _ ≤ _
              rw [HY1.out.1]
              omega
            clear hy hP hsn hsq HN HSZ
            go_wp2_with (refine wpList_load_row rfl 28 _ rfl g1 rfl 28 (sqC (concS x) vD) (0, 0) _ (F3.out.at (i := 1) rfl) Try.underlying28 rfl (by kernel_rfl) ?_)
            refine HCA.out.mono ?_
            rintro e w6 ⟨cs', ps, rfl, hr, hp, hb⟩
            obtain ⟨vE, rfl, -, h1⟩ := sq_of hr
            obtain ⟨vP, rfl, hvP, h2⟩ := pc_of hp
            have H1 := Lib.hid h1
            have H2 := Lib.hid h2
            have F4 := Lib.hid ((F3.out.res hb hr).more F3.out (us := [vP]) (ds := [bytesD ld]) (rvs_cons.2 ⟨hvP, rvs_nil⟩))
            clear h1 h2 hr hp hb hvP F3 o0 o1 o2 o3 HCA
            have F5 := Lib.hid ((F4.out.alloc #[.int .u32 0, .slice none 0 0, .int .i64 0, .bool false, .bool false, .bool false] 28).alloc #[.int .u32 0, .slice none 0 0] 46)
            rw [show (w6.alloc (.cells #[.int .u32 0, .slice none 0 0, .int .i64 0, .bool false, .bool false, .bool false] 28)).heap.size = w6.heap.size + 1 from by simp] at F5
            have F6 := Lib.hid (F5.out.put (i := 1) rfl (sqC (concS y) vE))
            go_upto_region 17 with (first | (refine wpList_store_row rfl 28 _ _ rfl w6.heap.size (sqC (concS y) vE) rfl rfl 28 #[.int .u32 0, .slice none 0 0, .int .i64 0, .bool false, .bool false, .bool false] (F5.out.at (i := 1) rfl) (by kernel_rfl) rfl H1.out ?_) | (refine wpList_store_row rfl 46 _ _ rfl (w6.heap.size + 1) (#[.int .u32 a, vP] : Array Value) rfl rfl 46 #[.int .u32 0, .slice none 0 0] (F6.out.at (i := 0) rfl) (by kernel_rfl) rfl H2.out ?_) | go_in)
            have F7 := Lib.hid (F6.out.put (i := 0) rfl (#[.int .u32 a, vP] : Array Value))
            obtain ⟨ga, hga⟩ : ∃ g, w6.heap.size = g := ⟨_, rfl⟩
            obtain ⟨gp, hgp⟩ : ∃ g, ga + 1 = g := ⟨_, rfl⟩
            have F8 : Hid (Frm w ((((w6.alloc (.cells #[.int .u32 0, .slice none 0 0, .int .i64 0, .bool false, .bool false, .bool false] 28)).alloc (.cells #[.int .u32 0, .slice none 0 0] 46)).setRow w6.heap.size (sqC (concS y) vE)).setRow (w6.heap.size + 1) (#[.int .u32 a, vP] : Array Value)) [(w6.heap.size + 1, (#[.int .u32 a, vP] : Array Value), 46), (w6.heap.size, (sqC (concS y) vE), 28), (go, #[.int .i64 kd, .slice B k eb, .int .i64 nn, .int .i64 sz], 33), (g1, (sqC (concS x) vD), 28)] [([vP], [bytesD ld]), ((sqC (concS y) vE).toList, sqD (concS y)), ([.slice B k eb], [bytesD D]), ((sqC (concS x) vD).toList, sqD (concS x))]) := F7
            generalize (((w6.alloc (.cells #[.int .u32 0, .slice none 0 0, .int .i64 0, .bool false, .bool false, .bool false] 28)).alloc (.cells #[.int .u32 0, .slice none 0 0] 46)).setRow w6.heap.size (sqC (concS y) vE)).setRow (w6.heap.size + 1) (#[.int .u32 a, vP] : Array Value) = w7 at F8 ⊢
            rw [hga, hgp] at F8 ⊢
            clear F4 F5 F6 F7 hga hgp H2
            go_upto_region 18 with (first | (refine wpList_load_row rfl 28 _ rfl ga rfl 28 (sqC (concS y) vE) (0, 0) _ (F8.out.at (i := 1) rfl) Try.underlying28 rfl (by kernel_rfl) ?_) | (refine wpList_store_row rfl 28 _ _ rfl g1 (sqC (concS y) vE) rfl rfl 28 (sqC (concS x) vD) (F8.out.at (i := 3) rfl) (by kernel_rfl) rfl H1.out ?_) | go_in)
            have F9 : Hid (Frm w (w7.setRow g1 (sqC (concS y) vE)) [(gp, (#[.int .u32 a, vP] : Array Value), 46), (ga, (sqC (concS y) vE), 28), (go, #[.int .i64 kd, .slice B k eb, .int .i64 nn, .int .i64 sz], 33), (g1, (sqC (concS y) vE), 28)] [([vP], [bytesD ld]), ((sqC (concS y) vE).toList, sqD (concS y)), ([.slice B k eb], [bytesD D]), ((sqC (concS x) vD).toList, sqD (concS x))]) := Lib.hid (F8.out.put (i := 3) rfl _)
            generalize w7.setRow g1 (sqC (concS y) vE) = w8 at F9 ⊢
            clear F8 H1
            have hcv := byt_text (rvs_cons.1 (F9.out.val (i := 0) rfl)).1 w8 (Below.refl _ _)
            obtain ⟨p0, p1⟩ := two_cells (F9.out.at (i := 0) rfl)
            have HF9 : Hid (Frm w w8 [(go, #[.int .i64 kd, .slice B k eb, .int .i64 nn, .int .i64 sz], 33), (g1, (sqC (concS y) vE), 28)] [((sqC (concS y) vE).toList, sqD (concS y))]) := Lib.hid (F9.out.drop 2 rfl (fun p hp => by simp only [List.mem_cons, List.not_mem_nil, or_false] at hp ⊢; rcases hp with rfl; simp))
            have HE7 : Hid ((.string ((⟨(sentS x).toArray⟩ : ByteArray) ++ ⟨ld.toArray⟩) : Value) = (.string ⟨(sentS y).toArray⟩)) := by show _ = _; rw [txt_add, HY2.out]
            have hts : (⟨(sentS x).toArray⟩ : ByteArray).size = x.sent := (txt_size _).trans HLEN.out
            obtain ⟨sn, hsn⟩ : ∃ sn, x.sent = sn := ⟨_, rfl⟩
            have hsn2 : sn ≤ 1000000 := by rw [← hsn]; exact Nat.le_trans HSN.out HSL.out
            rw [hsn] at hts HSQ
            have HWA : Hid (ok = true → (n + (sn : Int) % 4294967296) % 4294967296 = a) := fun ho => by
              rw [wrap_add, HSQ.out ho, HFN.out]
            have HFS := HY1.out.2.2.1
            obtain ⟨fs, hfs⟩ : ∃ fs, x.fsent = fs := ⟨_, rfl⟩
            rw [hfs] at HFS HFR ⊢
            have HFS := Lib.hid HFS
            clear F9 hsn HSQ hfs
            cases ok
            · have HEN := HNE.out rfl
              subst HEN
              rw [Bool.or_false] at HFS
              clear HFR HNE HWA
              cases fs
              · go_wp2
                go_meet
                case rel => exact ⟨y, vE, by rw [HY1.out.1], HE7.out, by rw [HY1.out.2.1], by rw [HFS.out], HOY, Lib.hid (HY1.out.2.2.2.trans HFN.out), HYL, HF9⟩
              · go_wp2
                go_meet
                case rel => exact ⟨y, vE, by rw [HY1.out.1], HE7.out, by rw [HY1.out.2.1], by rw [HFS.out], HOY, Lib.hid (HY1.out.2.2.2.trans HFN.out), HYL, HF9⟩
            · have HFX := HFR.out rfl
              subst HFX
              rw [Bool.false_or] at HFS
              have hwa := HWA.out rfl
              clear HFR HNE HWA
              go_wp2
              go_meet
              case rel => exact ⟨y, vE, by rw [HY1.out.1], HE7.out, by rw [HY1.out.2.1], by rw [HFS.out], HOY, Lib.hid (HY1.out.2.2.2.trans HFN.out), HYL, HF9⟩
        · as_aux_lemma =>
            obtain ⟨a, ld, hP, hl2, hsn, hsq⟩ := next_data HOX.out nn sz
            have HCA := Lib.hid (next18_any x (sqC (concS x) vD) _ nn sz w5 (F3.out.val (i := 1) rfl) HOX.out HN.out HSZ.out)
            rw [hP] at HCA
            have HOY := Lib.hid (next_okS HOX.out nn sz)
            have HY1 : Hid ((nextS x nn sz).all = x.all ∧ (nextS x nn sz).acked = x.acked ∧ (nextS x nn sz).fsent = (x.fsent || nextE x nn sz) ∧ (nextS x nn sz).first = x.first) := ⟨rfl, rfl, rfl, rfl⟩
            have HY2 := Lib.hid hsn
            have HFR := Lib.hid (fun ho => next_free HOX.out (u := nn) (v := sz) ho)
            have HSQ := Lib.hid hsq
            have HNE := Lib.hid (fun h => next_noE (x := x) (window := nn) (mss := sz) h)
            generalize nextE x nn sz = en at HCA HY1 HNE
            generalize nextO x nn sz = ok at HCA HFR HSQ HNE
            obtain ⟨y, hy⟩ : ∃ y, nextS x nn sz = y := ⟨_, rfl⟩
            rw [hy] at HCA HOY HY1 HY2
            have HYL : Hid (y.all.length ≤ 400 * (i + 1)) := by
              show _ ≤ _
              rw [HY1.out.1]
              omega
            clear hy hP hsn hsq HN HSZ
            go_wp2_with (refine wpList_load_row rfl 28 _ rfl g1 rfl 28 (sqC (concS x) vD) (0, 0) _ (F3.out.at (i := 1) rfl) Try.underlying28 rfl (by kernel_rfl) ?_)
            refine HCA.out.mono ?_
            rintro e w6 ⟨cs', ps, rfl, hr, hp, hb⟩
            obtain ⟨vE, rfl, -, h1⟩ := sq_of hr
            obtain ⟨vP, rfl, hvP, h2⟩ := pc_of hp
            have H1 := Lib.hid h1
            have H2 := Lib.hid h2
            have F4 := Lib.hid ((F3.out.res hb hr).more F3.out (us := [vP]) (ds := [bytesD ld]) (rvs_cons.2 ⟨hvP, rvs_nil⟩))
            clear h1 h2 hr hp hb hvP F3 o0 o1 o2 o3 HCA
            have F5 := Lib.hid ((F4.out.alloc #[.int .u32 0, .slice none 0 0, .int .i64 0, .bool false, .bool false, .bool false] 28).alloc #[.int .u32 0, .slice none 0 0] 46)
            rw [show (w6.alloc (.cells #[.int .u32 0, .slice none 0 0, .int .i64 0, .bool false, .bool false, .bool false] 28)).heap.size = w6.heap.size + 1 from by simp] at F5
            have F6 := Lib.hid (F5.out.put (i := 1) rfl (sqC (concS y) vE))
            go_upto_region 17 with (first | (refine wpList_store_row rfl 28 _ _ rfl w6.heap.size (sqC (concS y) vE) rfl rfl 28 #[.int .u32 0, .slice none 0 0, .int .i64 0, .bool false, .bool false, .bool false] (F5.out.at (i := 1) rfl) (by kernel_rfl) rfl H1.out ?_) | (refine wpList_store_row rfl 46 _ _ rfl (w6.heap.size + 1) (#[.int .u32 a, vP] : Array Value) rfl rfl 46 #[.int .u32 0, .slice none 0 0] (F6.out.at (i := 0) rfl) (by kernel_rfl) rfl H2.out ?_) | go_in)
            have F7 := Lib.hid (F6.out.put (i := 0) rfl (#[.int .u32 a, vP] : Array Value))
            obtain ⟨ga, hga⟩ : ∃ g, w6.heap.size = g := ⟨_, rfl⟩
            obtain ⟨gp, hgp⟩ : ∃ g, ga + 1 = g := ⟨_, rfl⟩
            have F8 : Hid (Frm w ((((w6.alloc (.cells #[.int .u32 0, .slice none 0 0, .int .i64 0, .bool false, .bool false, .bool false] 28)).alloc (.cells #[.int .u32 0, .slice none 0 0] 46)).setRow w6.heap.size (sqC (concS y) vE)).setRow (w6.heap.size + 1) (#[.int .u32 a, vP] : Array Value)) [(w6.heap.size + 1, (#[.int .u32 a, vP] : Array Value), 46), (w6.heap.size, (sqC (concS y) vE), 28), (go, #[.int .i64 kd, .slice B k eb, .int .i64 nn, .int .i64 sz], 33), (g1, (sqC (concS x) vD), 28)] [([vP], [bytesD ld]), ((sqC (concS y) vE).toList, sqD (concS y)), ([.slice B k eb], [bytesD D]), ((sqC (concS x) vD).toList, sqD (concS x))]) := F7
            generalize (((w6.alloc (.cells #[.int .u32 0, .slice none 0 0, .int .i64 0, .bool false, .bool false, .bool false] 28)).alloc (.cells #[.int .u32 0, .slice none 0 0] 46)).setRow w6.heap.size (sqC (concS y) vE)).setRow (w6.heap.size + 1) (#[.int .u32 a, vP] : Array Value) = w7 at F8 ⊢
            rw [hga, hgp] at F8 ⊢
            clear F4 F5 F6 F7 hga hgp H2
            go_upto_region 18 with (first | (refine wpList_load_row rfl 28 _ rfl ga rfl 28 (sqC (concS y) vE) (0, 0) _ (F8.out.at (i := 1) rfl) Try.underlying28 rfl (by kernel_rfl) ?_) | (refine wpList_store_row rfl 28 _ _ rfl g1 (sqC (concS y) vE) rfl rfl 28 (sqC (concS x) vD) (F8.out.at (i := 3) rfl) (by kernel_rfl) rfl H1.out ?_) | go_in)
            have F9 : Hid (Frm w (w7.setRow g1 (sqC (concS y) vE)) [(gp, (#[.int .u32 a, vP] : Array Value), 46), (ga, (sqC (concS y) vE), 28), (go, #[.int .i64 kd, .slice B k eb, .int .i64 nn, .int .i64 sz], 33), (g1, (sqC (concS y) vE), 28)] [([vP], [bytesD ld]), ((sqC (concS y) vE).toList, sqD (concS y)), ([.slice B k eb], [bytesD D]), ((sqC (concS x) vD).toList, sqD (concS x))]) := Lib.hid (F8.out.put (i := 3) rfl _)
            generalize w7.setRow g1 (sqC (concS y) vE) = w8 at F9 ⊢
            clear F8 H1
            have hcv := byt_text (rvs_cons.1 (F9.out.val (i := 0) rfl)).1 w8 (Below.refl _ _)
            obtain ⟨p0, p1⟩ := two_cells (F9.out.at (i := 0) rfl)
            have HF9 : Hid (Frm w w8 [(go, #[.int .i64 kd, .slice B k eb, .int .i64 nn, .int .i64 sz], 33), (g1, (sqC (concS y) vE), 28)] [((sqC (concS y) vE).toList, sqD (concS y))]) := Lib.hid (F9.out.drop 2 rfl (fun p hp => by simp only [List.mem_cons, List.not_mem_nil, or_false] at hp ⊢; rcases hp with rfl; simp))
            have HE7 : Hid ((.string ((⟨(sentS x).toArray⟩ : ByteArray) ++ ⟨ld.toArray⟩) : Value) = (.string ⟨(sentS y).toArray⟩)) := by show _ = _; rw [txt_add, HY2.out]
            have hts : (⟨(sentS x).toArray⟩ : ByteArray).size = x.sent := (txt_size _).trans HLEN.out
            obtain ⟨sn, hsn⟩ : ∃ sn, x.sent = sn := ⟨_, rfl⟩
            have hsn2 : sn ≤ 1000000 := by rw [← hsn]; exact Nat.le_trans HSN.out HSL.out
            rw [hsn] at hts HSQ
            have HWA : Hid (ok = true → (n + (sn : Int) % 4294967296) % 4294967296 = a) := fun ho => by
              rw [wrap_add, HSQ.out ho, HFN.out]
            have HFS := HY1.out.2.2.1
            obtain ⟨fs, hfs⟩ : ∃ fs, x.fsent = fs := ⟨_, rfl⟩
            rw [hfs] at HFS HFR ⊢
            have HFS := Lib.hid HFS
            clear F9 hsn HSQ hfs
            cases ok
            · have HEN := HNE.out rfl
              subst HEN
              rw [Bool.or_false] at HFS
              clear HFR HNE HWA
              cases fs
              · go_wp2
                go_meet
                case rel => exact ⟨y, vE, by rw [HY1.out.1], HE7.out, by rw [HY1.out.2.1], by rw [HFS.out], HOY, Lib.hid (HY1.out.2.2.2.trans HFN.out), HYL, HF9⟩
              · go_wp2
                go_meet
                case rel => exact ⟨y, vE, by rw [HY1.out.1], HE7.out, by rw [HY1.out.2.1], by rw [HFS.out], HOY, Lib.hid (HY1.out.2.2.2.trans HFN.out), HYL, HF9⟩
            · have HFX := HFR.out rfl
              subst HFX
              rw [Bool.false_or] at HFS
              have hwa := HWA.out rfl
              clear HFR HNE HWA
              go_wp2
              go_meet
              case rel => exact ⟨y, vE, by rw [HY1.out.1], HE7.out, by rw [HY1.out.2.1], by rw [HFS.out], HOY, Lib.hid (HY1.out.2.2.2.trans HFN.out), HYL, HF9⟩
        · as_aux_lemma =>
            obtain ⟨a, ld, hP, hl2, hgd⟩ := again_data HOX.out sz
            have HCA := Lib.hid (again18_any x (sqC (concS x) vD) _ sz w5 (F3.out.val (i := 1) rfl) HOX.out HSZ.out)
            rw [hP] at HCA
            have HGD := Lib.hid hgd
            generalize againE x sz = en at HCA HGD
            generalize againO x sz = ok at HCA HGD
            clear hP hgd HN HSZ
            go_wp2_with (refine wpList_load_row rfl 28 _ rfl g1 rfl 28 (sqC (concS x) vD) (0, 0) _ (F3.out.at (i := 1) rfl) Try.underlying28 rfl (by kernel_rfl) ?_)
            refine HCA.out.mono ?_
            rintro e w6 ⟨ps, rfl, hp, hb⟩
            obtain ⟨vP, rfl, hvP, h2⟩ := pc_of hp
            have H2 := Lib.hid h2
            obtain ⟨AP, cP, hvPe, -, -, hPc, hPm⟩ := rv_bytes.1 hvP
            have F4 := Lib.hid (F3.out.res hb (us := [vP]) (ds := [bytesD ld]) (rvs_cons.2 ⟨hvP, rvs_nil⟩))
            subst hvPe
            clear h2 hp hb hvP F3 o0 o1 o2 o3 HCA
            obtain ⟨nP, hnP⟩ : ∃ nP, ld.length = nP := ⟨_, rfl⟩
            rw [hnP] at F4 H2 HGD hl2 hPc ⊢
            have HNP := Lib.hid hnP
            have hcP : cP ≤ 9223372036854775807 := by unfold maxLen at hPm; omega
            clear hnP hPm
            go_upto_region 24 with (first | (refine wpList_store_new rfl 46 _ _ rfl w6 #[.int .u32 0, .slice none 0 0] (#[.int .u32 a, (.slice AP nP cP)] : Array Value) rfl rfl (by kernel_rfl) rfl H2.out ?_) | go_in)
            have F5 := Lib.hid (F4.out.alloc (#[.int .u32 a, (.slice AP nP cP)] : Array Value) 46)
            obtain ⟨gp, hgp⟩ : ∃ g, w6.heap.size = g := ⟨_, rfl⟩
            rw [hgp] at F5 ⊢
            change Code.wp _ _ _ _ (w6.alloc (.cells (#[.int .u32 a, (.slice AP nP cP)] : Array Value) 46))
            generalize w6.alloc (.cells (#[.int .u32 a, (.slice AP nP cP)] : Array Value) 46) = w8 at F5 ⊢
            clear F4 hgp H2
            have P0 : Hid (∀ w9, Reg w8 w9 → w9.cell? (⟨gp, 0, none⟩ : Addr) = some (.int .u32 a)) := fun w9 hr => (two_cells (old_below (F5.out.at (i := 0) rfl) (reg_below hr) (row_lt (F5.out.at (i := 0) rfl)))).1
            have P1 : Hid (∀ w9, Reg w8 w9 → w9.cell? ((⟨gp, 0, none⟩ : Addr).add 1) = some (.slice AP nP cP)) := Lib.hid (var_cell (F5.out.at (i := 0) rfl) 1 rfl)
            have HCV : Hid (∀ w9, Reg w8 w9 → (convert 26 9 (.slice AP nP cP)).run Try.prog w9 = .ok (.string ⟨ld.toArray⟩) w9) := fun w9 hr => byt_text (rvs_cons.1 (F5.out.val (i := 0) rfl)).1 w9 (reg_below hr)
            have HF9 : Hid (Frm w w8 [(go, #[.int .i64 kd, .slice B k eb, .int .i64 nn, .int .i64 sz], 33), (g1, (sqC (concS x) vD), 28)] [((sqC (concS x) vD).toList, sqD (concS x))]) := Lib.hid (F5.out.drop 1 rfl (fun p hp => by simp only [List.mem_cons, List.not_mem_nil, or_false] at hp ⊢; rcases hp with rfl; simp))
            have hts : (⟨(sentS x).toArray⟩ : ByteArray).size = x.sent := (txt_size _).trans HLEN.out
            have HSE : Hid ((⟨(sentS x).toArray⟩ : ByteArray).size = x.sent) := hts
            clear F5 hl2
            cases ok
            · clear HGD hts HSE
              refine wp_region_quiet_below (by kernel_rfl) (by kernel_rfl) ?_
              (first | go_big_quiet_step (fail) | quiet_step (fail))
              (first | go_big_quiet_step (fail) | quiet_step (fail))
              (first | go_big_quiet_step (fail) | quiet_step (fail))
              (first | go_big_quiet_step (fail) | quiet_step (fail))
              (first | go_big_quiet_step (fail) | quiet_step (fail))
              (first | go_big_quiet_step (fail) | quiet_step (fail))
              (first | go_big_quiet_step (fail) | quiet_step (fail))
              (first | go_big_quiet_step (fail) | quiet_step (fail))
              (first | go_big_quiet_step (fail) | quiet_step (fail))
              (first | go_big_quiet_step (fail) | quiet_step (fail))
              (first | go_big_quiet_step (fail) | quiet_step (fail))
              (first | go_big_quiet_step (fail) | quiet_step (fail))
              (first | go_big_quiet_step (fail) | quiet_step (fail))
              (first | go_big_quiet_step (fail) | quiet_step (fail))
              (first | go_big_quiet_step (fail) | quiet_step (fail))
              (first | go_big_quiet_step (fail) | quiet_step (fail))
              (first | go_big_quiet_step (fail) | quiet_step (fail))
              (first | go_big_quiet_step (fail) | quiet_step (fail))
              (first | go_big_quiet_step (fail) | quiet_step (fail))
              (first | go_big_quiet_step (fail) | quiet_step (fail))
              (first | go_big_quiet_step (fail) | quiet_step (fail))
              (first | go_big_quiet_step (fail) | quiet_step (fail))
              (first | go_big_quiet_step (fail) | quiet_step (fail))
              (first | go_big_quiet_step (fail) | quiet_step (fail))
              (first | go_big_quiet_step (fail) | quiet_step (fail))
              (first | go_big_quiet_step (fail) | quiet_step (fail))
              (first | go_big_quiet_step (fail) | quiet_step (fail))
              (first | go_big_quiet_step (fail) | quiet_step (fail))
              (first | go_big_quiet_step (fail) | quiet_step (fail))
              (first | go_big_quiet_step (fail) | quiet_step (fail))
              (first | go_big_quiet_step (fail) | quiet_step (fail))
              (first | go_big_quiet_step (fail) | quiet_step (fail))
              (first | go_big_quiet_step (fail) | quiet_step (fail))
              (first | go_big_quiet_step (fail) | quiet_step (fail))
              (first | go_big_quiet_step (fail) | quiet_step (fail))
              (first | go_big_quiet_step (fail) | quiet_step (fail))
              (first | go_big_quiet_step (fail) | quiet_step (fail))
              (first | go_big_quiet_step (fail) | quiet_step (fail))
              (first | go_big_quiet_step (fail) | quiet_step (fail))
              (first | go_big_quiet_step (fail) | quiet_step (fail))
              (first | go_big_quiet_step (fail) | quiet_step (fail))
              (first | go_big_quiet_step (fail) | quiet_step (fail))
              (first | go_big_quiet_step (fail) | quiet_step (fail))
              refine wpQuiet_nil ?_
              intro w9 hw9
              obtain ⟨⟨dq, osq⟩, rfl⟩ := hw9
              have HB9 := Lib.hid ((Below.refl w8.heap.size w8).trans ((below_regrown w8 dq osq).mono (Below.refl w8.heap.size w8).size))
              generalize Sort.grow (redrawn w8 dq) osq = w9z at *
              have HFB := Lib.hid (HF9.out.call HB9.out)
              clear HF9 HB9
              go_wp2
              go_meet
              case rel => exact ⟨x, vD, rfl, rfl, rfl, rfl, HOX, HFN, by show _ ≤ _; omega, HFB⟩
            · obtain ⟨ha, hle, hef, hsum, hdr⟩ := HGD.out rfl

              have HEX := Lib.hid (ext_part (sentS x) ld x.acked x.sent nP HLEN.out hdr)
              have HFE := Lib.hid hef
              have h1 := HSN.out
              have h2 := HSL.out
              obtain ⟨B0, hB0⟩ : ∃ B0, (⟨(sentS x).toArray⟩ : ByteArray) = B0 := ⟨_, rfl⟩
              obtain ⟨P9, hP9⟩ : ∃ P9, (⟨ld.toArray⟩ : ByteArray) = P9 := ⟨_, rfl⟩
              obtain ⟨sn, hsn⟩ : ∃ sn, x.sent = sn := ⟨_, rfl⟩
              obtain ⟨ak, hak⟩ : ∃ ak, x.acked = ak := ⟨_, rfl⟩
              have HB0 := Lib.hid hB0
              have HAK3 := Lib.hid hak
              rw [hB0] at hts HEX
              rw [hP9] at HEX HCV
              rw [hsn] at hts HEX hle hsum h1
              rw [hak] at HEX hle hsum ha
              rw [hB0, hak]
              have hwa : (n + (ak : Int) % 4294967296) % 4294967296 = a := by rw [wrap_add, ha, HFN.out]
              have hwb : (n + (ak : Int)) % 4294967296 = a := by rw [← hwa]; omega
              have hmin : min (ak : Int) (sn : Int) = (ak : Int) := by omega
              have hs2 : (B0.extract ak sn).size = sn - ak := ext_size B0 ak sn hts hle
              have hex := HEX.out
              have hbe : (P9.toList == P9.toList) = true := beq_self_eq_true _
              have hgt : ¬ (sn : Int) < (ak : Int) + (nP : Int) := by omega
              have hnp2 : (nP : Int) ≤ ((sn - ak : Nat) : Int) := by omega
              clear HGD hef hdr HSE hB0 hP9 hsn hak ha HEX
              cases en
              · refine wp_region_quiet_below (by kernel_rfl) (by kernel_rfl) ?_
                (first | go_big_quiet_step (fail) | quiet_step (fail))
                (first | go_big_quiet_step (fail) | quiet_step (fail))
                (first | go_big_quiet_step (fail) | quiet_step (fail))
                (refine wpQuiet_step (fun K hK => ?_); refine quiet_load_cell (by kernel_rfl) 22 _ rfl (⟨gp, 0, none⟩ : Addr) (by first | rfl | (simp [Act.eval, Addr.add_mid])) (.int .u32 a) _ P0.out Try.underlying22 rfl ?_; refine hK _ ?_; clear hK K; go_frame)
                (first | go_big_quiet_step (fail) | quiet_step (fail))
                (first | go_big_quiet_step (fail) | quiet_step (fail))
                (first | go_big_quiet_step (fail) | quiet_step (fail))
                (first | go_big_quiet_step (fail) | quiet_step (fail))
                (first | go_big_quiet_step (fail) | quiet_step (fail))
                (first | go_big_quiet_step (fail) | quiet_step (fail))
                (first | go_big_quiet_step (fail) | quiet_step (fail))
                (first | go_big_quiet_step (fail) | quiet_step (fail))
                (first | go_big_quiet_step (fail) | quiet_step (fail))
                (first | go_big_quiet_step (fail) | quiet_step (fail))
                (first | go_big_quiet_step (fail) | quiet_step (fail))
                (first | go_big_quiet_step (fail) | quiet_step (fail))
                (first | go_big_quiet_step (fail) | quiet_step (fail))
                (first | go_big_quiet_step (fail) | quiet_step (fail))
                (first | go_big_quiet_step (fail) | quiet_step (fail))
                (refine wpQuiet_step (fun K hK => ?_); refine quiet_load_cell (by kernel_rfl) 26 _ rfl ((⟨gp, 0, none⟩ : Addr).add 1) (by first | rfl | (simp [Act.eval, Addr.add_mid])) (.slice AP nP cP) _ P1.out Try.underlying26 rfl ?_; refine hK _ ?_; clear hK K; go_frame)
                (first | go_big_quiet_step (fail) | quiet_step (fail))
                (first | go_big_quiet_step (fail) | quiet_step (fail))
                (first | go_big_quiet_step (fail) | quiet_step (fail))
                (first | go_big_quiet_step (fail) | quiet_step (fail))
                (first | go_big_quiet_step (fail) | quiet_step (fail))
                (first | go_big_quiet_step (fail) | quiet_step (fail))
                (first | go_big_quiet_step (fail) | quiet_step (fail))
                (first | go_big_quiet_step (fail) | quiet_step (fail))
                (refine wpQuiet_step (fun K hK => ?_); refine quiet_load_cell (by kernel_rfl) 26 _ rfl ((⟨gp, 0, none⟩ : Addr).add 1) (by first | rfl | (simp [Act.eval, Addr.add_mid])) (.slice AP nP cP) _ P1.out Try.underlying26 rfl ?_; refine hK _ ?_; clear hK K; go_frame)
                (refine wpQuiet_step (fun K hK => ?_); refine quiet_conv (by kernel_rfl) 26 9 _ rfl (.slice AP nP cP) (.string P9) rfl HCV.out ?_; refine hK _ ?_; clear hK K; go_frame)
                (first | go_big_quiet_step (fail) | quiet_step (fail))
                (first | go_big_quiet_step (fail) | quiet_step (fail))
                (first | go_big_quiet_step (fail) | quiet_step (fail))
                (first | go_big_quiet_step (fail) | quiet_step (fail))
                (first | go_big_quiet_step (fail) | quiet_step (fail))
                (first | go_big_quiet_step (fail) | quiet_step (fail))
                (first | go_big_quiet_step (fail) | quiet_step (fail))
                (refine wpQuiet_step (fun K hK => ?_); refine quiet_load_cell (by kernel_rfl) 26 _ rfl ((⟨gp, 0, none⟩ : Addr).add 1) (by first | rfl | (simp [Act.eval, Addr.add_mid])) (.slice AP nP cP) _ P1.out Try.underlying26 rfl ?_; refine hK _ ?_; clear hK K; go_frame)
                (first | go_big_quiet_step (fail) | quiet_step (fail))
                (first | go_big_quiet_step (fail) | quiet_step (fail))
                (first | go_big_quiet_step (fail) | quiet_step (fail))
                (first | go_big_quiet_step (fail) | quiet_step (fail))
                (first | go_big_quiet_step (fail) | quiet_step (fail))
                refine wpQuiet_nil ?_
                intro w9 hw9
                obtain ⟨⟨dq, osq⟩, rfl⟩ := hw9
                have HB9 := Lib.hid ((Below.refl w8.heap.size w8).trans ((below_regrown w8 dq osq).mono (Below.refl w8.heap.size w8).size))
                generalize Sort.grow (redrawn w8 dq) osq = w9z at *
                have HFB := Lib.hid (HF9.out.call HB9.out)
                clear HF9 HB9
                go_wp2
                go_meet
                case rel => exact ⟨x, vD, rfl, by rw [HB0.out], by rw [HAK3.out], rfl, HOX, HFN, by show _ ≤ _; omega, HFB⟩
              · have HFT := Lib.hid (HFE.out rfl)
                rw [HFT.out]
                refine wp_region_quiet_below (by kernel_rfl) (by kernel_rfl) ?_
                (first | go_big_quiet_step (fail) | quiet_step (fail))
                (first | go_big_quiet_step (fail) | quiet_step (fail))
                (first | go_big_quiet_step (fail) | quiet_step (fail))
                (refine wpQuiet_step (fun K hK => ?_); refine quiet_load_cell (by kernel_rfl) 22 _ rfl (⟨gp, 0, none⟩ : Addr) (by first | rfl | (simp [Act.eval, Addr.add_mid])) (.int .u32 a) _ P0.out Try.underlying22 rfl ?_; refine hK _ ?_; clear hK K; go_frame)
                (first | go_big_quiet_step (fail) | quiet_step (fail))
                (first | go_big_quiet_step (fail) | quiet_step (fail))
                (first | go_big_quiet_step (fail) | quiet_step (fail))
                (first | go_big_quiet_step (fail) | quiet_step (fail))
                (first | go_big_quiet_step (fail) | quiet_step (fail))
                (first | go_big_quiet_step (fail) | quiet_step (fail))
                (first | go_big_quiet_step (fail) | quiet_step (fail))
                (first | go_big_quiet_step (fail) | quiet_step (fail))
                (first | go_big_quiet_step (fail) | quiet_step (fail))
                (first | go_big_quiet_step (fail) | quiet_step (fail))
                (first | go_big_quiet_step (fail) | quiet_step (fail))
                (first | go_big_quiet_step (fail) | quiet_step (fail))
                (first | go_big_quiet_step (fail) | quiet_step (fail))
                (first | go_big_quiet_step (fail) | quiet_step (fail))
                (first | go_big_quiet_step (fail) | quiet_step (fail))
                (refine wpQuiet_step (fun K hK => ?_); refine quiet_load_cell (by kernel_rfl) 26 _ rfl ((⟨gp, 0, none⟩ : Addr).add 1) (by first | rfl | (simp [Act.eval, Addr.add_mid])) (.slice AP nP cP) _ P1.out Try.underlying26 rfl ?_; refine hK _ ?_; clear hK K; go_frame)
                (first | go_big_quiet_step (fail) | quiet_step (fail))
                (first | go_big_quiet_step (fail) | quiet_step (fail))
                (first | go_big_quiet_step (fail) | quiet_step (fail))
                (first | go_big_quiet_step (fail) | quiet_step (fail))
                (first | go_big_quiet_step (fail) | quiet_step (fail))
                (first | go_big_quiet_step (fail) | quiet_step (fail))
                (first | go_big_quiet_step (fail) | quiet_step (fail))
                (first | go_big_quiet_step (fail) | quiet_step (fail))
                (refine wpQuiet_step (fun K hK => ?_); refine quiet_load_cell (by kernel_rfl) 26 _ rfl ((⟨gp, 0, none⟩ : Addr).add 1) (by first | rfl | (simp [Act.eval, Addr.add_mid])) (.slice AP nP cP) _ P1.out Try.underlying26 rfl ?_; refine hK _ ?_; clear hK K; go_frame)
                (refine wpQuiet_step (fun K hK => ?_); refine quiet_conv (by kernel_rfl) 26 9 _ rfl (.slice AP nP cP) (.string P9) rfl HCV.out ?_; refine hK _ ?_; clear hK K; go_frame)
                (first | go_big_quiet_step (fail) | quiet_step (fail))
                (first | go_big_quiet_step (fail) | quiet_step (fail))
                (first | go_big_quiet_step (fail) | quiet_step (fail))
                (first | go_big_quiet_step (fail) | quiet_step (fail))
                (first | go_big_quiet_step (fail) | quiet_step (fail))
                (first | go_big_quiet_step (fail) | quiet_step (fail))
                (first | go_big_quiet_step (fail) | quiet_step (fail))
                (refine wpQuiet_step (fun K hK => ?_); refine quiet_load_cell (by kernel_rfl) 26 _ rfl ((⟨gp, 0, none⟩ : Addr).add 1) (by first | rfl | (simp [Act.eval, Addr.add_mid])) (.slice AP nP cP) _ P1.out Try.underlying26 rfl ?_; refine hK _ ?_; clear hK K; go_frame)
                (first | go_big_quiet_step (fail) | quiet_step (fail))
                (first | go_big_quiet_step (fail) | quiet_step (fail))
                (first | go_big_quiet_step (fail) | quiet_step (fail))
                (first | go_big_quiet_step (fail) | quiet_step (fail))
                (first | go_big_quiet_step (fail) | quiet_step (fail))
                refine wpQuiet_nil ?_
                intro w9 hw9
                obtain ⟨⟨dq, osq⟩, rfl⟩ := hw9
                have HB9 := Lib.hid ((Below.refl w8.heap.size w8).trans ((below_regrown w8 dq osq).mono (Below.refl w8.heap.size w8).size))
                generalize Sort.grow (redrawn w8 dq) osq = w9z at *
                have HFB := Lib.hid (HF9.out.call HB9.out)
                clear HF9 HB9
                go_wp2
                go_meet
                case rel => exact ⟨x, vD, rfl, by rw [HB0.out], by rw [HAK3.out], by rw [HFT.out], HOX, HFN, by show _ ≤ _; omega, HFB⟩
        · as_aux_lemma =>
            have HWA : Hid (((concS x).una + nn % 4294967296) % 4294967296 = addS (addS x.first x.acked) nn) := wrap_add (concS x).una nn
            have HAU : Hid (U32 (addS (addS x.first x.acked) nn)) := ⟨addS_ge _ _, addS_le _ _⟩
            obtain ⟨AT, hAT⟩ : ∃ AT, addS (addS x.first x.acked) nn = AT := ⟨_, rfl⟩
            rw [hAT] at HWA HAU
            have HWB : Hid (((concS x).una + nn) % 4294967296 = AT) := by have := HWA.out; show _ = _; omega
            have HCA := Lib.hid (fun w' S (hr : Rvs w' S (sqC (concS x) vD).toList (sqD (concS x))) => ack18_any x (sqC (concS x) vD) S AT w' hr HOX.out HAU.out)
            have HOY := Lib.hid (ack_okS HOX.out AT)
            have HY := Lib.hid (ack_sent x AT)
            obtain ⟨y, hy⟩ : ∃ y, ackS x AT = y := ⟨_, rfl⟩
            rw [hy] at HCA HOY HY
            generalize ackN x AT = an at HCA HY
            have HYL : Hid (y.all.length ≤ 400 * (i + 1)) := by
              show _ ≤ _
              rw [HY.out.2.1]
              omega
            have hsum : (x.acked : Int) + an = (y.acked : Int) := HY.out.2.2.2.2.symm
            have hyk : y.acked ≤ 1000001 := act_okS HOY.out (by rw [HY.out.2.1]; exact HSL.out)
            clear hy hAT HN HSZ
            have q0 := sq_cells (F3.out.at (i := 1) rfl)
            go_wp2_with (refine wpList_load_row rfl 28 _ rfl g1 rfl 28 (sqC (concS x) vD) (0, 0) _ (F3.out.at (i := 1) rfl) Try.underlying28 rfl (by kernel_rfl) ?_)
            first | rw [HWB.out] | rw [HWA.out]
            refine (HCA.out _ _ (F3.out.val (i := 1) rfl)).mono ?_
            rintro e w6 ⟨cs', rfl, hr, hb⟩
            obtain ⟨vE, rfl, -, h1⟩ := sq_of hr
            have H1 := Lib.hid h1
            have F4 := Lib.hid (F3.out.res hb hr)
            clear h1 hr hb F3 HCA o0 o1 o2 o3 q0
            go_upto_region 29 with (first | (refine wpList_store_new rfl 28 _ _ rfl w6 #[.int .u32 0, .slice none 0 0, .int .i64 0, .bool false, .bool false, .bool false] (sqC (concS y) vE) rfl rfl (by kernel_rfl) rfl H1.out ?_) | go_in)
            have F5 := Lib.hid (F4.out.alloc (sqC (concS y) vE) 28)
            obtain ⟨ga, hga⟩ : ∃ g, w6.heap.size = g := ⟨_, rfl⟩
            rw [hga] at F5 ⊢
            change Code.wp _ _ _ _ (w6.alloc (.cells (sqC (concS y) vE) 28))
            generalize w6.alloc (.cells (sqC (concS y) vE) 28) = w7 at F5 ⊢
            clear F4 hga
            go_upto_region 30 with (first | (refine wpList_load_row rfl 28 _ rfl ga rfl 28 (sqC (concS y) vE) (0, 0) _ (F5.out.at (i := 0) rfl) Try.underlying28 rfl (by kernel_rfl) ?_) | (refine wpList_store_row rfl 28 _ _ rfl g1 (sqC (concS y) vE) rfl rfl 28 (sqC (concS x) vD) (F5.out.at (i := 2) rfl) (by kernel_rfl) rfl H1.out ?_) | go_in)
            have F6 : Hid (Frm w (w7.setRow g1 (sqC (concS y) vE)) [(ga, (sqC (concS y) vE), 28), (go, #[.int .i64 kd, .slice B k eb, .int .i64 nn, .int .i64 sz], 33), (g1, (sqC (concS y) vE), 28)] [((sqC (concS y) vE).toList, sqD (concS y)), ([.slice B k eb], [bytesD D]), ((sqC (concS x) vD).toList, sqD (concS x))]) := Lib.hid (F5.out.put (i := 2) rfl _)
            generalize w7.setRow g1 (sqC (concS y) vE) = w8 at F6 ⊢
            clear F5 H1
            have HF9 : Hid (Frm w w8 [(go, #[.int .i64 kd, .slice B k eb, .int .i64 nn, .int .i64 sz], 33), (g1, (sqC (concS y) vE), 28)] [((sqC (concS y) vE).toList, sqD (concS y))]) := Lib.hid (F6.out.drop 1 rfl (fun p hp => by simp only [List.mem_cons, List.not_mem_nil, or_false] at hp ⊢; rcases hp with rfl; simp))
            clear F6
            go_wp2
            go_meet
            case rel => exact ⟨y, vE, by rw [HY.out.2.1], by rw [HY.out.1], rfl, by rw [HY.out.2.2.1], HOY, Lib.hid (HY.out.2.2.2.1.trans HFN.out), HYL, HF9⟩
        · as_aux_lemma =>
            have HWA : Hid (((concS x).una + nn % 4294967296) % 4294967296 = addS (addS x.first x.acked) nn) := wrap_add (concS x).una nn
            have HAU : Hid (U32 (addS (addS x.first x.acked) nn)) := ⟨addS_ge _ _, addS_le _ _⟩
            obtain ⟨AT, hAT⟩ : ∃ AT, addS (addS x.first x.acked) nn = AT := ⟨_, rfl⟩
            rw [hAT] at HWA HAU
            have HWB : Hid (((concS x).una + nn) % 4294967296 = AT) := by have := HWA.out; show _ = _; omega
            have HCA := Lib.hid (fun w' S (hr : Rvs w' S (sqC (concS x) vD).toList (sqD (concS x))) => ack18_any x (sqC (concS x) vD) S AT w' hr HOX.out HAU.out)
            have HOY := Lib.hid (ack_okS HOX.out AT)
            have HY := Lib.hid (ack_sent x AT)
            obtain ⟨y, hy⟩ : ∃ y, ackS x AT = y := ⟨_, rfl⟩
            rw [hy] at HCA HOY HY
            generalize ackN x AT = an at HCA HY
            have HYL : Hid (y.all.length ≤ 400 * (i + 1)) := by
              show _ ≤ _
              rw [HY.out.2.1]
              omega
            have hsum : (x.acked : Int) + an = (y.acked : Int) := HY.out.2.2.2.2.symm
            have hyk : y.acked ≤ 1000001 := act_okS HOY.out (by rw [HY.out.2.1]; exact HSL.out)
            clear hy hAT HN HSZ
            have q0 := sq_cells (F3.out.at (i := 1) rfl)
            go_wp2_with (refine wpList_load_row rfl 28 _ rfl g1 rfl 28 (sqC (concS x) vD) (0, 0) _ (F3.out.at (i := 1) rfl) Try.underlying28 rfl (by kernel_rfl) ?_)
            first | rw [HWB.out] | rw [HWA.out]
            refine (HCA.out _ _ (F3.out.val (i := 1) rfl)).mono ?_
            rintro e w6 ⟨cs', rfl, hr, hb⟩
            obtain ⟨vE, rfl, -, h1⟩ := sq_of hr
            have H1 := Lib.hid h1
            have F4 := Lib.hid (F3.out.res hb hr)
            clear h1 hr hb F3 HCA o0 o1 o2 o3 q0
            go_upto_region 29 with (first | (refine wpList_store_new rfl 28 _ _ rfl w6 #[.int .u32 0, .slice none 0 0, .int .i64 0, .bool false, .bool false, .bool false] (sqC (concS y) vE) rfl rfl (by kernel_rfl) rfl H1.out ?_) | go_in)
            have F5 := Lib.hid (F4.out.alloc (sqC (concS y) vE) 28)
            obtain ⟨ga, hga⟩ : ∃ g, w6.heap.size = g := ⟨_, rfl⟩
            rw [hga] at F5 ⊢
            change Code.wp _ _ _ _ (w6.alloc (.cells (sqC (concS y) vE) 28))
            generalize w6.alloc (.cells (sqC (concS y) vE) 28) = w7 at F5 ⊢
            clear F4 hga
            go_upto_region 30 with (first | (refine wpList_load_row rfl 28 _ rfl ga rfl 28 (sqC (concS y) vE) (0, 0) _ (F5.out.at (i := 0) rfl) Try.underlying28 rfl (by kernel_rfl) ?_) | (refine wpList_store_row rfl 28 _ _ rfl g1 (sqC (concS y) vE) rfl rfl 28 (sqC (concS x) vD) (F5.out.at (i := 2) rfl) (by kernel_rfl) rfl H1.out ?_) | go_in)
            have F6 : Hid (Frm w (w7.setRow g1 (sqC (concS y) vE)) [(ga, (sqC (concS y) vE), 28), (go, #[.int .i64 kd, .slice B k eb, .int .i64 nn, .int .i64 sz], 33), (g1, (sqC (concS y) vE), 28)] [((sqC (concS y) vE).toList, sqD (concS y)), ([.slice B k eb], [bytesD D]), ((sqC (concS x) vD).toList, sqD (concS x))]) := Lib.hid (F5.out.put (i := 2) rfl _)
            generalize w7.setRow g1 (sqC (concS y) vE) = w8 at F6 ⊢
            clear F5 H1
            have HF9 : Hid (Frm w w8 [(go, #[.int .i64 kd, .slice B k eb, .int .i64 nn, .int .i64 sz], 33), (g1, (sqC (concS y) vE), 28)] [((sqC (concS y) vE).toList, sqD (concS y))]) := Lib.hid (F6.out.drop 1 rfl (fun p hp => by simp only [List.mem_cons, List.not_mem_nil, or_false] at hp ⊢; rcases hp with rfl; simp))
            clear F6
            go_wp2
            go_meet
            case rel => exact ⟨y, vE, by rw [HY.out.2.1], by rw [HY.out.1], rfl, by rw [HY.out.2.2.1], HOY, Lib.hid (HY.out.2.2.2.1.trans HFN.out), HYL, HF9⟩
        · as_aux_lemma =>
            have HCA := Lib.hid (fun w' S (hr : Rvs w' S (sqC (concS x) vD).toList (sqD (concS x))) => close18_any x (sqC (concS x) vD) S w' hr HOX.out)
            have HOY := Lib.hid (close_okS HOX.out)
            have HY : Hid ((closeS x).all = x.all ∧ sentS (closeS x) = sentS x ∧ (closeS x).acked = x.acked ∧ (closeS x).fsent = x.fsent ∧ (closeS x).first = x.first) := ⟨rfl, rfl, rfl, rfl, rfl⟩
            obtain ⟨y, hy⟩ : ∃ y, closeS x = y := ⟨_, rfl⟩
            rw [hy] at HCA HOY HY
            have HYL : Hid (y.all.length ≤ 400 * (i + 1)) := by
              show _ ≤ _
              rw [HY.out.1]
              omega
            clear hy HN HSZ
            go_wp2_with (refine wpList_load_row rfl 28 _ rfl g1 rfl 28 (sqC (concS x) vD) (0, 0) _ (F3.out.at (i := 1) rfl) Try.underlying28 rfl (by kernel_rfl) ?_)
            refine (HCA.out _ _ (F3.out.val (i := 1) rfl)).mono ?_
            rintro e w6 ⟨cs', rfl, hr, hb⟩
            obtain ⟨vE, rfl, -, h1⟩ := sq_of hr
            have H1 := Lib.hid h1
            have F4 := Lib.hid (F3.out.res hb hr)
            clear h1 hr hb F3 HCA o0 o1 o2 o3
            have F5 : Hid (Frm w (w6.setRow g1 (sqC (concS y) vE)) [(go, #[.int .i64 kd, .slice B k eb, .int .i64 nn, .int .i64 sz], 33), (g1, (sqC (concS y) vE), 28)] [((sqC (concS y) vE).toList, sqD (concS y)), ([.slice B k eb], [bytesD D]), ((sqC (concS x) vD).toList, sqD (concS x))]) := Lib.hid (F4.out.put (i := 1) rfl _)
            have HF9 : Hid (Frm w (w6.setRow g1 (sqC (concS y) vE)) [(go, #[.int .i64 kd, .slice B k eb, .int .i64 nn, .int .i64 sz], 33), (g1, (sqC (concS y) vE), 28)] [((sqC (concS y) vE).toList, sqD (concS y))]) := Lib.hid (F5.out.drop 0 rfl (fun p hp => by simp only [List.mem_cons, List.not_mem_nil, or_false] at hp ⊢; rcases hp with rfl; simp))
            clear F5
            go_wp2_with (refine wpList_store_row rfl 28 _ _ rfl g1 (sqC (concS y) vE) rfl rfl 28 (sqC (concS x) vD) (F4.out.at (i := 1) rfl) (by kernel_rfl) rfl H1.out ?_)
            go_meet
            case rel => exact ⟨y, vE, by rw [HY.out.1], by rw [HY.out.2.1], by rw [HY.out.2.2.1], by rw [HY.out.2.2.2.1], HOY, Lib.hid (HY.out.2.2.2.2.trans HFN.out), HYL, HF9⟩
      case rest =>
        obtain ⟨y, vE, rfl, rfl, rfl, rfl, HOY, HFY, HYL, F4⟩ := hcut
        have hyl := HYL.out
        have HSL2 : Hid (y.all.length ≤ 1000000) := by show _ ≤ _; omega
        have h1 := HOY.out.sent
        have h2 := HOY.out.acked
        have h3 := HOY.out.room
        have h4 := HOY.out.fsent
        have h5 := HSL2.out
        have hA : (⟨y.all.toArray⟩ : ByteArray).size = y.all.length := txt_size _
        have hB : (⟨(sentS y).toArray⟩ : ByteArray).size = y.sent := (txt_size _).trans (sent_len HOY.out)
        have hex : (⟨y.all.toArray⟩ : ByteArray).extract 0 y.sent = ⟨(sentS y).toArray⟩ := by
          apply ByteArray.ext
          unfold sentS
          simp
        have hfull : y.fsent = true → (⟨(sentS y).toArray⟩ : ByteArray) = ⟨y.all.toArray⟩ := fun hf => by
          unfold sentS
          rw [List.take_of_length_le (Nat.le_of_eq (h4 hf).2.symm)]
        have hak1 : y.acked ≤ y.sent + 1 := by split at h2 <;> omega
        have hak2 : y.all.length ≤ y.acked + 256 := by unfold fromS at h3; omega
        have HRL : Hid (Frm w wc [(g1, (sqC (concS y) vE), 28)] [((sqC (concS y) vE).toList, sqD (concS y))]) := Lib.hid (F4.out.drop 1 rfl (fun _ h => h))
        have hxp : Hid (∃ (x : Sx) (a : Value), x = y ∧ a = vE) := ⟨y, vE, rfl, rfl⟩
        have hrl : Hid (OkS y ∧ y.first = n ∧ y.all.length ≤ 400 * (i + 1)) := ⟨HOY.out, HFY.out, hyl⟩
        clear F4 h3 h2 h4 hyl hxp o0 o1 o2 o3
        obtain ⟨A0, hA0⟩ : ∃ A0, (⟨y.all.toArray⟩ : ByteArray) = A0 := ⟨_, rfl⟩
        obtain ⟨B0, hB0⟩ : ∃ B0, (⟨(sentS y).toArray⟩ : ByteArray) = B0 := ⟨_, rfl⟩
        have HA0 := Lib.hid hA0
        have HB0 := Lib.hid hB0
        rw [hA0] at hA hex hfull
        rw [hB0] at hB hex hfull
        obtain ⟨sn, hsn⟩ : ∃ sn, y.sent = sn := ⟨_, rfl⟩
        obtain ⟨al, hal⟩ : ∃ al, y.all.length = al := ⟨_, rfl⟩
        obtain ⟨ak, hak⟩ : ∃ ak, y.acked = ak := ⟨_, rfl⟩
        obtain ⟨fs, hfs⟩ : ∃ fs, y.fsent = fs := ⟨_, rfl⟩
        have HAK2 := Lib.hid hak
        have HFS2 := Lib.hid hfs
        rw [hsn] at hB hex h1 hak1
        rw [hal] at hA h1 h5 hak2
        rw [hak] at hak1 hak2
        rw [hfs] at hfull
        rw [hA0, hB0, hak, hfs]
        clear hA0 hB0 hsn hal hak hfs
        have hbe : (B0.toList == B0.toList) = true := beq_self_eq_true _
        cases fs
        · clear hfull
          go_upto_region 33 with (fail)
          go_wp2
          go_roundw
          case rel => exact ⟨i + 1, y, vE, by omega, by go_num, by rw [HA0.out], by rw [HB0.out], by rw [HAK2.out], by rw [HFS2.out], HOY, HFY, HYL, HRL⟩
          case measure => simp [intOf]; omega
        · obtain rfl := hfull rfl
          obtain rfl : sn = al := hB.symm.trans hA
          clear hfull
          go_upto_region 33 with (fail)
          go_wp2
          go_roundw
          case rel => exact ⟨i + 1, y, vE, by omega, by go_num, by rw [HA0.out], by rw [HB0.out], by rw [HAK2.out], by rw [HFS2.out], HOY, HFY, HYL, HRL⟩
          case measure => simp [intOf]; omega
    · obtain rfl : i = m := by omega
      have hxl := HXL.out
      have HSL : Hid (x.all.length ≤ 1000000) := by show _ ≤ _; omega
      have HLL : Hid (leftS x + 0 ≤ x.all.length + 1) := left_le x
      have hs5 := HSL.out
      obtain ⟨A0, hA0⟩ : ∃ A0, (⟨x.all.toArray⟩ : ByteArray) = A0 := ⟨_, rfl⟩
      have HA0 := Lib.hid hA0
      obtain ⟨al, hal⟩ : ∃ al, x.all.length = al := ⟨_, rfl⟩
      have hts : A0.size = al := by rw [← hA0, ← hal]; exact txt_size _

      have HAL := Lib.hid hal
      rw [hal] at HLL hs5
      rw [hA0]
      clear hA0 hal hxl
      go_wp2
      go_loopw [7, 9, 216] (fun t7 t9 t216 wr => ∃ (j : Nat) (y : Sx) (a : Value), j ≤ al + 2 ∧ t216 = .int .i64 (j : Int) ∧ t7 = (.string ⟨(sentS y).toArray⟩) ∧ t9 = .bool y.fsent ∧ Hid (OkS y) ∧ Hid (y.all = x.all ∧ y.fin = x.fin) ∧ Hid (leftS y + j ≤ al + 1) ∧ Hid (Frm w wr [(g1, (sqC (concS y) a), 28)] [((sqC (concS y) a).toList, sqD (concS y))])) (fun _ _ t216 _ => al + 2 - (intOf t216).toNat)
      case atStart => exact ⟨0, x, vD, Nat.zero_le _, rfl, rfl, rfl, HOX, Lib.hid ⟨rfl, rfl⟩, HLL, F1⟩
      case round =>
        clear F1 HLL
        obtain ⟨j, y, vE, hj, rfl, rfl, rfl, HOY, HYX, HLJ, F2⟩ := hrel
        have hlj := HLJ.out
        by_cases hjt : j < al + 2
        · have hjt2 : (j : Int) < (al : Int) + 2 := by omega
          obtain ⟨a, ld, hP, hl2, hsn, -⟩ := next_data HOY.out 1048576 64
          rename World => wr
          have HCA := Lib.hid (next18_any y (sqC (concS y) vE) _ 1048576 64 wr (F2.out.val (i := 0) rfl) HOY.out ⟨by decide, by decide⟩ ⟨by decide, by decide⟩)
          rw [hP] at HCA
          have HOZ := Lib.hid (next_okS HOY.out 1048576 64)
          have HSN := Lib.hid hsn
          have HZF : Hid ((nextS y 1048576 64).all = y.all ∧ (nextS y 1048576 64).fin = y.fin ∧ (nextS y 1048576 64).fsent = (y.fsent || nextE y 1048576 64)) := ⟨rfl, rfl, rfl⟩
          have HLD := Lib.hid (fun h => left_done (x := y) HOY.out h)
          have HLS := Lib.hid (fun h => left_less (x := y) HOY.out h)
          have HFR := Lib.hid (fun h => next_free (x := y) HOY.out (u := 1048576) (v := 64) h)
          obtain ⟨ok, hok⟩ : ∃ ok, nextO y 1048576 64 = ok := ⟨_, rfl⟩
          rw [hok] at HCA HLD HLS HFR
          generalize nextE y 1048576 64 = en at HCA HZF
          obtain ⟨z, hz⟩ : ∃ z, nextS y 1048576 64 = z := ⟨_, rfl⟩
          rw [hz] at HCA HOZ HSN HZF HLS
          have hrg := HOY.out.room
          clear hP hsn hok hz hrg
          cases ok
          · obtain ⟨hse, hfe⟩ := HLD.out rfl
            have HB : Hid ((⟨(sentS y).toArray⟩ : ByteArray) = A0) := by
              show _ = _
              unfold sentS
              rw [hse, List.take_length, HYX.out.1]
              exact HA0.out
            have HFE := Lib.hid hfe
            clear HLD HLS HFR hse hfe
            go_wp2_with (refine wpList_load_row rfl 28 _ rfl g1 rfl 28 (sqC (concS y) vE) (0, 0) _ (F2.out.at (i := 0) rfl) Try.underlying28 rfl (by kernel_rfl) ?_)
            refine HCA.out.mono ?_
            rintro e w6 ⟨cs', ps, rfl, hr, hp, hb⟩
            obtain ⟨vF, rfl, -, h1⟩ := sq_of hr
            obtain ⟨vP, rfl, hvP, h2⟩ := pc_of hp
            have H1 := Lib.hid h1
            have H2 := Lib.hid h2
            have F4 := Lib.hid ((F2.out.res hb hr).more F2.out (us := [vP]) (ds := [bytesD ld]) (rvs_cons.2 ⟨hvP, rvs_nil⟩))
            clear h1 h2 hr hp hb hvP F2 HCA
            have F5 := Lib.hid ((F4.out.alloc #[.int .u32 0, .slice none 0 0, .int .i64 0, .bool false, .bool false, .bool false] 28).alloc #[.int .u32 0, .slice none 0 0] 46)
            rw [show (w6.alloc (.cells #[.int .u32 0, .slice none 0 0, .int .i64 0, .bool false, .bool false, .bool false] 28)).heap.size = w6.heap.size + 1 from by simp] at F5
            have F6 := Lib.hid (F5.out.put (i := 1) rfl (sqC (concS z) vF))
            go_upto_region 37 with (first | (refine wpList_store_row rfl 28 _ _ rfl w6.heap.size (sqC (concS z) vF) rfl rfl 28 #[.int .u32 0, .slice none 0 0, .int .i64 0, .bool false, .bool false, .bool false] (F5.out.at (i := 1) rfl) (by kernel_rfl) rfl H1.out ?_) | (refine wpList_store_row rfl 46 _ _ rfl (w6.heap.size + 1) (#[.int .u32 a, vP] : Array Value) rfl rfl 46 #[.int .u32 0, .slice none 0 0] (F6.out.at (i := 0) rfl) (by kernel_rfl) rfl H2.out ?_) | go_in)
            have F7 := Lib.hid (F6.out.put (i := 0) rfl (#[.int .u32 a, vP] : Array Value))
            obtain ⟨ga, hga⟩ : ∃ g, w6.heap.size = g := ⟨_, rfl⟩
            obtain ⟨gp, hgp⟩ : ∃ g, ga + 1 = g := ⟨_, rfl⟩
            have F8 : Hid (Frm w ((((w6.alloc (.cells #[.int .u32 0, .slice none 0 0, .int .i64 0, .bool false, .bool false, .bool false] 28)).alloc (.cells #[.int .u32 0, .slice none 0 0] 46)).setRow w6.heap.size (sqC (concS z) vF)).setRow (w6.heap.size + 1) (#[.int .u32 a, vP] : Array Value)) [(w6.heap.size + 1, (#[.int .u32 a, vP] : Array Value), 46), (w6.heap.size, (sqC (concS z) vF), 28), (g1, (sqC (concS y) vE), 28)] [([vP], [bytesD ld]), ((sqC (concS z) vF).toList, sqD (concS z)), ((sqC (concS y) vE).toList, sqD (concS y))]) := F7
            generalize (((w6.alloc (.cells #[.int .u32 0, .slice none 0 0, .int .i64 0, .bool false, .bool false, .bool false] 28)).alloc (.cells #[.int .u32 0, .slice none 0 0] 46)).setRow w6.heap.size (sqC (concS z) vF)).setRow (w6.heap.size + 1) (#[.int .u32 a, vP] : Array Value) = w7 at F8 ⊢
            rw [hga, hgp] at F8 ⊢
            clear F4 F5 F6 F7 hga hgp H2
            have HRI : Hid (∀ w9, Below w7.heap.size w7 w9 → Calls Try.prog 13 #[.agg (sqC (concS y) vE)] w9 fun e w' => e = .returned (.bool true) ∧ Below w9.heap.size w9 w') := fun w9 hb => by
              obtain ⟨v1, e, hr1, -⟩ := sq_of (F8.out.val (i := 2) rfl)
              have e2 : v1 = vE := by
                injection e with e
                injection e with _ e
                injection e with e _
                exact e.symm
              subst e2
              have h5 := HOY.out.sent
              have h6 : y.all.length = al := by rw [HYX.out.1]; exact HAL.out
              have h7 := right18_any (concS y).una ((concS y).sent : Int) v1 (concS y).data (concS y).fin (concS y).fsent (concS y).facked _ w9 ((rv_lt hr1).kept hb (fun _ h => h.2)) (by unfold I64; show _ ∧ ((y.sent - fromS y : Nat) : Int) ≤ _; omega) (by show (y.all.drop (fromS y)).length ≤ _; rw [List.length_drop]; omega)
              rw [conc_right HOY.out] at h7
              exact h7
            have six : ∀ {w : World} {b : Nat} {v0 v1 v2 v3 v4 v5 : Value} {t : TypeId} {fr : Nat × Nat}, w.heap[b]? = some (.cells #[v0, v1, v2, v3, v4, v5] t fr) → w.cell? ⟨b, 0, none⟩ = some v0 ∧ w.cell? ⟨b, 1, none⟩ = some v1 ∧ w.cell? ⟨b, 2, none⟩ = some v2 ∧ w.cell? ⟨b, 3, none⟩ = some v3 ∧ w.cell? ⟨b, 4, none⟩ = some v4 ∧ w.cell? ⟨b, 5, none⟩ = some v5 := fun h => by
              refine ⟨?_, ?_, ?_, ?_, ?_, ?_⟩ <;> (rw [cell_of_row _ _ _ _ _ _ h]; rfl)
            obtain ⟨c0, c1, c2, c3x, c4, c5⟩ := six (F8.out.at (i := 2) rfl)
            clear six
            have HRI : Hid (∀ w9, Below w7.heap.size w7 w9 → Calls Try.prog 13 #[.agg #[.int .u32 (concS y).una, vE, .int .i64 ((concS y).sent : Int), .bool y.fin, .bool (concS y).fsent, .bool (concS y).facked]] w9 fun e w' => e = .returned (.bool true) ∧ Below w9.heap.size w9 w') := HRI.out
            have c3 : w7.cell? ⟨g1, 3, none⟩ = some (.bool y.fin) := c3x
            clear c3x
            generalize (concS y).una = u0 at HRI c0
            generalize ((concS y).sent : Int) = u2 at HRI c2
            generalize (concS y).fsent = u4 at HRI c4
            generalize (concS y).facked = u5 at HRI c5
            have hbe : (A0.toList == A0.toList) = true := beq_self_eq_true _
            have HBF := Lib.hid F8.out.below
            rw [HB.out, HFE.out]
            obtain ⟨fi, hfi⟩ : ∃ fi, y.fin = fi := ⟨_, rfl⟩
            rw [hfi] at c3 HRI
            rw [hfi]
            clear hfi HFE HSN HB
            cases fi
            · go_wp2_with fail
              refine (HRI.out _ (Below.refl _ _)).mono ?_
              rintro e w8 ⟨rfl, hb⟩
              have HBG := Lib.hid (HBF.out.trans (hb.mono HBF.out.size))
              clear hb
              go_wp2
              go_ret
              exact ⟨rfl, HBG.out⟩
            · go_wp2_with fail
              refine (HRI.out _ (Below.refl _ _)).mono ?_
              rintro e w8 ⟨rfl, hb⟩
              have HBG := Lib.hid (HBF.out.trans (hb.mono HBF.out.size))
              clear hb
              go_wp2
              go_ret
              exact ⟨rfl, HBG.out⟩
          · have hls := HLS.out rfl
            have hfr := HFR.out rfl
            rw [hfr]
            rw [hfr, Bool.false_or] at HZF
            have HLZ : Hid (leftS z + (j + 1) ≤ al + 1) := by show _ ≤ _; omega
            clear HLD HLS HFR hls hfr
            go_wp2_with (refine wpList_load_row rfl 28 _ rfl g1 rfl 28 (sqC (concS y) vE) (0, 0) _ (F2.out.at (i := 0) rfl) Try.underlying28 rfl (by kernel_rfl) ?_)
            refine HCA.out.mono ?_
            rintro e w6 ⟨cs', ps, rfl, hr, hp, hb⟩
            obtain ⟨vF, rfl, -, h1⟩ := sq_of hr
            obtain ⟨vP, rfl, hvP, h2⟩ := pc_of hp
            have H1 := Lib.hid h1
            have H2 := Lib.hid h2
            have F4 := Lib.hid ((F2.out.res hb hr).more F2.out (us := [vP]) (ds := [bytesD ld]) (rvs_cons.2 ⟨hvP, rvs_nil⟩))
            clear h1 h2 hr hp hb hvP F2 HCA
            have F5 := Lib.hid ((F4.out.alloc #[.int .u32 0, .slice none 0 0, .int .i64 0, .bool false, .bool false, .bool false] 28).alloc #[.int .u32 0, .slice none 0 0] 46)
            rw [show (w6.alloc (.cells #[.int .u32 0, .slice none 0 0, .int .i64 0, .bool false, .bool false, .bool false] 28)).heap.size = w6.heap.size + 1 from by simp] at F5
            have F6 := Lib.hid (F5.out.put (i := 1) rfl (sqC (concS z) vF))
            go_upto_region 37 with (first | (refine wpList_store_row rfl 28 _ _ rfl w6.heap.size (sqC (concS z) vF) rfl rfl 28 #[.int .u32 0, .slice none 0 0, .int .i64 0, .bool false, .bool false, .bool false] (F5.out.at (i := 1) rfl) (by kernel_rfl) rfl H1.out ?_) | (refine wpList_store_row rfl 46 _ _ rfl (w6.heap.size + 1) (#[.int .u32 a, vP] : Array Value) rfl rfl 46 #[.int .u32 0, .slice none 0 0] (F6.out.at (i := 0) rfl) (by kernel_rfl) rfl H2.out ?_) | go_in)
            have F7 := Lib.hid (F6.out.put (i := 0) rfl (#[.int .u32 a, vP] : Array Value))
            obtain ⟨ga, hga⟩ : ∃ g, w6.heap.size = g := ⟨_, rfl⟩
            obtain ⟨gp, hgp⟩ : ∃ g, ga + 1 = g := ⟨_, rfl⟩
            have F8 : Hid (Frm w ((((w6.alloc (.cells #[.int .u32 0, .slice none 0 0, .int .i64 0, .bool false, .bool false, .bool false] 28)).alloc (.cells #[.int .u32 0, .slice none 0 0] 46)).setRow w6.heap.size (sqC (concS z) vF)).setRow (w6.heap.size + 1) (#[.int .u32 a, vP] : Array Value)) [(w6.heap.size + 1, (#[.int .u32 a, vP] : Array Value), 46), (w6.heap.size, (sqC (concS z) vF), 28), (g1, (sqC (concS y) vE), 28)] [([vP], [bytesD ld]), ((sqC (concS z) vF).toList, sqD (concS z)), ((sqC (concS y) vE).toList, sqD (concS y))]) := F7
            generalize (((w6.alloc (.cells #[.int .u32 0, .slice none 0 0, .int .i64 0, .bool false, .bool false, .bool false] 28)).alloc (.cells #[.int .u32 0, .slice none 0 0] 46)).setRow w6.heap.size (sqC (concS z) vF)).setRow (w6.heap.size + 1) (#[.int .u32 a, vP] : Array Value) = w7 at F8 ⊢
            rw [hga, hgp] at F8 ⊢
            clear F4 F5 F6 F7 hga hgp H2
            go_upto_region 39 with (first | (refine wpList_load_row rfl 28 _ rfl ga rfl 28 (sqC (concS z) vF) (0, 0) _ (F8.out.at (i := 1) rfl) Try.underlying28 rfl (by kernel_rfl) ?_) | (refine wpList_store_row rfl 28 _ _ rfl g1 (sqC (concS z) vF) rfl rfl 28 (sqC (concS y) vE) (F8.out.at (i := 2) rfl) (by kernel_rfl) rfl H1.out ?_) | go_in)
            have F9 : Hid (Frm w (w7.setRow g1 (sqC (concS z) vF)) [(gp, (#[.int .u32 a, vP] : Array Value), 46), (ga, (sqC (concS z) vF), 28), (g1, (sqC (concS z) vF), 28)] [([vP], [bytesD ld]), ((sqC (concS z) vF).toList, sqD (concS z)), ((sqC (concS y) vE).toList, sqD (concS y))]) := Lib.hid (F8.out.put (i := 2) rfl _)
            generalize w7.setRow g1 (sqC (concS z) vF) = w8 at F9 ⊢
            clear F8 H1
            have hcv := byt_text (rvs_cons.1 (F9.out.val (i := 0) rfl)).1 w8 (Below.refl _ _)
            obtain ⟨p0, p1⟩ := two_cells (F9.out.at (i := 0) rfl)
            have HF9 : Hid (Frm w w8 [(g1, (sqC (concS z) vF), 28)] [((sqC (concS z) vF).toList, sqD (concS z))]) := Lib.hid (F9.out.drop 2 rfl (fun p hp => by simp only [List.mem_cons, List.not_mem_nil, or_false] at hp ⊢; rcases hp with rfl; simp))
            have HE7 : Hid ((.string ((⟨(sentS y).toArray⟩ : ByteArray) ++ ⟨ld.toArray⟩) : Value) = (.string ⟨(sentS z).toArray⟩)) := by show _ = _; rw [txt_add, HSN.out]
            have hts2 : (⟨(sentS y).toArray⟩ : ByteArray).size = y.sent := (txt_size _).trans (sent_len HOY.out)
            have hsy : y.sent ≤ 1000000 := by
              have h1 := HOY.out.sent
              have h6 : y.all.length = al := by rw [HYX.out.1]; exact HAL.out
              omega
            generalize y.sent = sy at hts2 hsy
            clear F9
            go_wp2
            go_roundw
            case rel => exact ⟨j + 1, z, vF, by omega, by go_num, HE7.out, by rw [HZF.out.2.2], HOZ, Lib.hid ⟨HZF.out.1.trans HYX.out.1, HZF.out.2.1.trans HYX.out.2⟩, HLZ, HF9⟩
            case measure => simp [intOf]; omega
        · omega
end Go.Proofs.Ytebflcpoecolbaa
