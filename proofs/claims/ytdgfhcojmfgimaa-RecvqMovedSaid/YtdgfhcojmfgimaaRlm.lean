/-
  The law RecvqMoved: every two numbers, every slice of ops.
-/
import Derived.Test.YtdgfhcojmfgimaaRlv
import Derived.Test.YtdgfhcojmfgimaaRqv
import Derived.Test.YtdgfhcojmfgimaaTwe
namespace Go.Proofs.Ytdgfhcojmfgimaa
open Go.RowKit

theorem sub_moved {n1 n2 T a : Int} (h : addS n1 T = n2) : (addS a T - n2) % 4294967296 = (a - n1) % 4294967296 := by
  rw [← h]
  unfold addS
  omega
theorem sub_moved2 {n1 n2 T a o : Int} (h : addS n1 T = n2) : (addS (addS a T) o - n2) % 4294967296 = (addS a o - n1) % 4294967296 := by
  rw [← h]
  unfold addS
  omega
theorem fin_moved {n1 n2 T : Int} {y : Rx} (h : addS n1 T = n2) (_hk : (conc y).known = true) (hd : y.done = true ∨ 0 ≤ y.fin) : ((conc (mvX T y)).fin - n2) % 4294967296 = ((conc y).fin - n1) % 4294967296 := by
  have e1 : (conc (mvX T y)).fin = if y.done = true then addS (addS y.next T) (-1) else if 0 ≤ y.fin then addS (addS y.next T) y.fin else 0 := rfl
  have e2 : (conc y).fin = if y.done = true then addS y.next (-1) else if 0 ≤ y.fin then addS y.next y.fin else 0 := rfl
  rw [e1, e2]
  split
  · exact sub_moved2 h
  · rename_i hn
    rw [if_pos (hd.resolve_left hn), if_pos (hd.resolve_left hn)]
    exact sub_moved2 h
set_option maxRecDepth 100000 in
set_option maxHeartbeats 40000000 in
theorem moved_any (n1 n2 : Int) (v : Value) (l : List Op17) (w : World) (hn1 : U32 n1) (hn2 : U32 n2) (hv : Rv w (Lt w.heap.size) v (rowsD 4 op17D l)) (hO : ∀ o ∈ l, ok17 o) (hl : l.length ≤ 140737488351232) :
    Calls Try.prog 5 #[.int .u32 n1, .int .u32 n2, v] w fun e w' => e = .returned (.bool true) ∧ Below w.heap.size w w' := by
  have HRV := Lib.hid hv
  have HN1 := Lib.hid hn1
  have HN2 := Lib.hid hn2
  have HO := Lib.hid hO
  obtain ⟨T, hT⟩ : ∃ T, addS n1 T = n2 := ⟨n2 - n1, add_back hn2⟩
  have HT := Lib.hid hT
  obtain ⟨A, c, rfl, hnc, hcm, hel⟩ := op_at hv
  have HEL := Lib.hid hel
  obtain ⟨m, hm⟩ : ∃ m, l.length = m := ⟨_, rfl⟩
  rw [hm] at HRV hnc hl ⊢
  have HM := Lib.hid hm
  have hcm2 : c ≤ 9223372036854775807 := by unfold maxLen at hcm; omega
  clear hm hcm hn1 hn2 hO hv hel hT
  go_enter Try.func5, Try.ntmps5
  go_wp2_with fail
  refine (lives_any _).mono ?_
  rintro e w1 ⟨rfl, hb1⟩
  have HB1 := Lib.hid hb1
  have HRV1 : Hid (Rv w1 (Lt w1.heap.size) (.slice A m c) (rowsD 4 op17D l)) := (HRV.out.kept hb1 (fun _ h => h)).wide fun b hb => Nat.lt_of_lt_of_le hb hb1.size
  have HFT := Lib.hid (fits_any _ l w1 HRV1.out HO.out (by rw [HM.out]; exact hl))
  obtain ⟨ft, hft⟩ : ∃ ft, fitsX l = ft := ⟨_, rfl⟩
  have HFX := Lib.hid hft
  rw [hft] at HFT
  clear hb1 hft
  go_wp2_with fail
  refine HFT.out.mono ?_
  rintro e w2 ⟨rfl, hb2⟩
  have HB2 := Lib.hid (HB1.out.trans (hb2.mono HB1.out.size))
  clear hb2 HFT HRV1
  cases ft
  · go_wp2_with fail
    refine (lives_any _).mono ?_
    rintro e w3 ⟨rfl, hb3⟩
    have HB3 := Lib.hid (HB2.out.trans (hb3.mono HB2.out.size))
    clear hb3
    go_wp2
    go_ret
    exact ⟨rfl, HB3.out⟩
  have h60 := (fits_iff.1 HFX.out).2
  have HF4 := Lib.hid (fits_iff.1 HFX.out).1
  rw [HM.out] at h60
  have HOK0 := Lib.hid (new_ok HN1.out)
  obtain ⟨X0, hX0⟩ : ∃ X0, newX n1 = X0 := ⟨_, rfl⟩
  have HX0 := Lib.hid hX0
  have HXT : Hid (newX n2 = (mvX T X0)) := by show _ = _; rw [← hX0, new_moved, HT.out]
  rw [hX0] at HOK0
  clear hX0
  go_wp2_with fail
  refine (new_any n1 _ HN1.out).mono ?_
  rintro e w3 ⟨cs1, rfl, hr, hb⟩
  rw [HX0.out] at hr
  obtain ⟨vD, vA, rfl, h1⟩ := rq_of hr
  have HA1 := Lib.hid h1
  have F1 := Lib.hid ((Frm.start HB2.out).new hb hr)
  clear hr hb h1
  go_wp2_with fail
  refine (new_any n2 _ HN2.out).mono ?_
  rintro e w4 ⟨cs2, rfl, hr, hb⟩
  rw [HXT.out] at hr
  obtain ⟨vE, vB, rfl, h1⟩ := rq_of hr
  have HA2 := Lib.hid h1
  have F2 := Lib.hid (F1.out.new hb hr)
  clear hr hb h1 F1
  have F3 := Lib.hid ((F2.out.alloc #[.int .u32 0, .slice none 0 0, .slice none 0 0, .bool false, .int .u32 0, .bool false] 29).alloc #[.int .u32 0, .slice none 0 0, .slice none 0 0, .bool false, .int .u32 0, .bool false] 29)
  rw [show (w4.alloc (.cells #[.int .u32 0, .slice none 0 0, .slice none 0 0, .bool false, .int .u32 0, .bool false] 29)).heap.size = w4.heap.size + 1 from by simp] at F3
  have F4 := Lib.hid (F3.out.put (i := 1) rfl (rqC (conc X0) vD vA))
  go_upto_region 4 with (first | (refine wpList_store_row rfl 29 _ _ rfl w4.heap.size (rqC (conc X0) vD vA) rfl rfl 29 #[.int .u32 0, .slice none 0 0, .slice none 0 0, .bool false, .int .u32 0, .bool false] (F3.out.at (i := 1) rfl) (by kernel_rfl) rfl HA1.out ?_) | (refine wpList_store_row rfl 29 _ _ rfl (w4.heap.size + 1) (rqC (conc (mvX T X0)) vE vB) rfl rfl 29 #[.int .u32 0, .slice none 0 0, .slice none 0 0, .bool false, .int .u32 0, .bool false] (F4.out.at (i := 0) rfl) (by kernel_rfl) rfl HA2.out ?_) | go_in)
  have F5 := Lib.hid (F4.out.put (i := 0) rfl (rqC (conc (mvX T X0)) vE vB))
  generalize (((w4.alloc (.cells #[.int .u32 0, .slice none 0 0, .slice none 0 0, .bool false, .int .u32 0, .bool false] 29)).alloc (.cells #[.int .u32 0, .slice none 0 0, .slice none 0 0, .bool false, .int .u32 0, .bool false] 29)).setRow w4.heap.size (rqC (conc X0) vD vA)).setRow (w4.heap.size + 1) (rqC (conc (mvX T X0)) vE vB) = w5 at F5 ⊢
  obtain ⟨g1, hg1⟩ : ∃ g1, w4.heap.size = g1 := ⟨_, rfl⟩
  rw [hg1] at F5 ⊢
  obtain ⟨g2, hg2⟩ : ∃ g2, g1 + 1 = g2 := ⟨_, rfl⟩
  rw [hg2] at F5 ⊢
  have F6 : Hid (Frm w w5 [(g2, (rqC (conc (mvX T X0)) vE vB), 29), (g1, (rqC (conc X0) vD vA), 29)] [((rqC (conc (mvX T X0)) vE vB).toList, rqD (conc (mvX T X0))), ((rqC (conc X0) vD vA).toList, rqD (conc X0))]) := F5
  clear F2 F3 F4 F5 hg1 hg2 HA1 HA2 HX0 HXT HB1 HB2
  go_wp2
  go_loopw [26] (fun t26 wr => ∃ (i : Nat) (x : Rx) (a b u z : Value), i ≤ m ∧ t26 = .int .i64 (i : Int) ∧ Hid (OkX x) ∧ Hid (Frm w wr [(g2, (rqC (conc (mvX T x)) u z), 29), (g1, (rqC (conc x) a b), 29)] [((rqC (conc (mvX T x)) u z).toList, rqD (conc (mvX T x))), ((rqC (conc x) a b).toList, rqD (conc x))])) (fun t26 _ => m - (intOf t26).toNat)
  case atStart => exact ⟨0, X0, vD, vA, vE, vB, Nat.zero_le _, rfl, HOK0, F6⟩
  case round =>
    clear F6 HOK0
    obtain ⟨i, x, vD, vA, vE, vB, hi, rfl, HOX, F1⟩ := hrel
    by_cases hlt : i < m
    · obtain ⟨o, ho⟩ : ∃ o, l[i]? = some o := ⟨_, List.getElem?_eq_getElem (by rw [HM.out]; exact hlt)⟩
      have HMO := Lib.hid (List.mem_of_getElem? ho)
      obtain ⟨ad, B, eb, rfl, hrb, hcl⟩ := HEL.out i o ho
      obtain ⟨ho1, -, ho3⟩ := HO.out o HMO.out
      have hk4 := HF4.out o HMO.out
      obtain ⟨off, D, fe, rd⟩ := o
      dsimp only at hrb hcl ho1 ho3 hk4
      obtain ⟨k, hk⟩ : ∃ k, D.length = k := ⟨_, rfl⟩
      have HDK := Lib.hid hk
      rw [hk] at hrb hcl hk4
      have HKC : Hid (∀ (j : Nat) u, (#[.int .i64 off, .slice B k eb, .bool fe, .int .i64 rd] : Array Value)[j]? = some u → wr.cell? ((ad.add (i * 4)).add j) = some u) := fun j u hj => (F1.out.below.cell (cell_lt (hcl j u hj))).trans (hcl j u hj)
      have F2 := Lib.hid (F1.out.add (us := [.slice B k eb]) (ds := [bytesD D]) (F1.out.old (rvs_cons.2 ⟨hrb, rvs_nil⟩)))
      have HRD := Lib.hid ho3
      clear ho hrb hcl hk HMO ho1 ho3 F1
      go_upto_region 7 with (first | (refine wpList_load_atA rfl 36 _ rfl (ad.add (i * 4)) rfl #[.int .i64 off, .slice B k eb, .bool fe, .int .i64 rd] _ HKC.out Try.underlying36 rfl (by kernel_rfl) ?_) | (refine wpList_store_new rfl 36 _ _ rfl wr #[.int .i64 0, .slice none 0 0, .bool false, .int .i64 0] #[.int .i64 off, .slice B k eb, .bool fe, .int .i64 rd] rfl rfl (by kernel_rfl) rfl (by simp [Value.oneCell']) ?_) | go_in)
      have F3 := Lib.hid (F2.out.alloc #[.int .i64 off, .slice B k eb, .bool fe, .int .i64 rd] 36)
      obtain ⟨go, hgo⟩ : ∃ go, wr.heap.size = go := ⟨_, rfl⟩
      rw [hgo] at F3 ⊢
      generalize wr.alloc (.cells #[.int .i64 off, .slice B k eb, .bool fe, .int .i64 rd] 36) = w5 at F3 ⊢
      clear HKC F2 hgo
      have F4 : Hid (Frm w w5 [(go, #[.int .i64 off, .slice B k eb, .bool fe, .int .i64 rd], 36), (g2, (rqC (conc (mvX T x)) vE vB), 29), (g1, (rqC (conc x) vD vA), 29)] [([.slice B k eb], [bytesD D]), ((rqC (conc (mvX T x)) vE vB).toList, rqD (conc (mvX T x))), ((rqC (conc x) vD vA).toList, rqD (conc x))]) := F3
      have HOM : Hid (OkX (mvX T x)) := mv_ok HOX.out T
      clear F3
      obtain ⟨o0, o1, o2, o3⟩ := four_at (F4.out.at (i := 0) rfl)
      go_upto_if 32 with (fail)
      go_cut [] (fun wx => ∃ (y : Rx) (a b u z : Value), Hid (OkX y) ∧ Hid (Frm w wx [(go, #[.int .i64 off, .slice B k eb, .bool fe, .int .i64 rd], 36), (g2, (rqC (conc (mvX T y)) u z), 29), (g1, (rqC (conc y) a b), 29)] [((rqC (conc (mvX T y)) u z).toList, rqD (conc (mvX T y))), ((rqC (conc y) a b).toList, rqD (conc y))]))
      case first =>
        by_cases hrd : 0 < rd
        · obtain ⟨y, hy⟩ : ∃ y, readX x rd = y := ⟨_, rfl⟩
          have HOY : Hid (OkX y) := by rw [← hy]; exact read_ok HOX.out rd
          have HCA := Lib.hid (read_any x (rqC (conc x) vD vA) _ rd w5 (F4.out.val (i := 2) rfl) HOX.out HRD.out)
          have HCB := Lib.hid (fun w' S (hr : Rvs w' S (rqC (conc (mvX T x)) vE vB).toList (rqD (conc (mvX T x)))) => read_any (mvX T x) (rqC (conc (mvX T x)) vE vB) S rd w' hr HOM.out HRD.out)
          rw [hy] at HCA
          rw [read_moved, hy] at HCB
          clear hy
          go_wp2_with (refine wpList_load_row rfl 29 _ rfl g1 rfl 29 (rqC (conc x) vD vA) (0, 0) _ (F4.out.at (i := 2) rfl) Try.underlying29 rfl (by kernel_rfl) ?_)
          refine HCA.out.mono ?_
          rintro e w6 ⟨cs', vb, rfl, hr, hrb, hb⟩
          obtain ⟨a, b, rfl, h1⟩ := rq_of hr
          have H1 := Lib.hid h1
          have F5 := Lib.hid (F4.out.res hb hr)
          clear h1 hr hrb hb F4 o0 o1 o2 o3 HCA
          obtain ⟨o0, o1, o2, o3⟩ := four_at (F5.out.at (i := 0) rfl)
          go_upto_region 9 with (first | (refine wpList_store_row rfl 29 _ _ rfl g1 (rqC (conc y) a b) rfl rfl 29 (rqC (conc x) vD vA) (F5.out.at (i := 2) rfl) (by kernel_rfl) rfl H1.out ?_) | go_in)
          have F6 : Hid (Frm w (w6.setRow g1 (rqC (conc y) a b)) [(go, #[.int .i64 off, .slice B k eb, .bool fe, .int .i64 rd], 36), (g2, (rqC (conc (mvX T x)) vE vB), 29), (g1, (rqC (conc y) a b), 29)] [((rqC (conc y) a b).toList, rqD (conc y)), ([.slice B k eb], [bytesD D]), ((rqC (conc (mvX T x)) vE vB).toList, rqD (conc (mvX T x))), ((rqC (conc x) vD vA).toList, rqD (conc x))]) := Lib.hid (F5.out.put (i := 2) rfl _)
          generalize w6.setRow g1 (rqC (conc y) a b) = w7 at F6 ⊢
          clear F5 H1 o0 o1 o2 o3
          obtain ⟨o0, o1, o2, o3⟩ := four_at (F6.out.at (i := 0) rfl)
          go_wp2_with (refine wpList_load_row rfl 29 _ rfl g2 rfl 29 (rqC (conc (mvX T x)) vE vB) (0, 0) _ (F6.out.at (i := 1) rfl) Try.underlying29 rfl (by kernel_rfl) ?_)
          refine (HCB.out _ _ (F6.out.val (i := 2) rfl)).mono ?_
          rintro e w8 ⟨cs', vc, rfl, hr, hrb, hb⟩
          obtain ⟨u, z, rfl, h1⟩ := rq_of hr
          have H1 := Lib.hid h1
          have F7 := Lib.hid (F6.out.res hb hr)
          clear h1 hr hrb hb F6 o0 o1 o2 o3 HCB
          have F8 := Lib.hid (F7.out.put (i := 1) rfl (rqC (conc (mvX T y)) u z))
          go_wp2_with (refine wpList_store_row rfl 29 _ _ rfl g2 (rqC (conc (mvX T y)) u z) rfl rfl 29 (rqC (conc (mvX T x)) vE vB) (F7.out.at (i := 1) rfl) (by kernel_rfl) rfl H1.out ?_)
          have F9 : Hid (Frm w (w8.setRow g2 (rqC (conc (mvX T y)) u z)) [(go, #[.int .i64 off, .slice B k eb, .bool fe, .int .i64 rd], 36), (g2, (rqC (conc (mvX T y)) u z), 29), (g1, (rqC (conc y) a b), 29)] [((rqC (conc (mvX T y)) u z).toList, rqD (conc (mvX T y))), ((rqC (conc y) a b).toList, rqD (conc y))]) := Lib.hid (F8.out.drop 0 rfl (fun p hp => by simp only [List.mem_cons, List.not_mem_nil, or_false] at hp ⊢; rcases hp with rfl | rfl <;> simp))
          clear F7 F8
          go_meet
          case rel => exact ⟨y, a, b, u, z, HOY, F9⟩
        · obtain ⟨AT, hAT⟩ : ∃ AT, addS x.next off = AT := ⟨_, rfl⟩
          have HAU : Hid (U32 AT) := by rw [← hAT]; exact ⟨addS_ge _ _, addS_le _ _⟩
          have HAV : Hid (U32 (addS AT T)) := ⟨addS_ge _ _, addS_le _ _⟩
          have hwa : IntKind.u32.wrap ((conc x).next + IntKind.u32.wrap off) = AT := by rw [IntKind.wrap_u32', IntKind.wrap_u32']; exact (wrap_add x.next off).trans hAT
          have hwb : IntKind.u32.wrap ((conc (mvX T x)).next + IntKind.u32.wrap off) = addS AT T := by
            rw [IntKind.wrap_u32', IntKind.wrap_u32']
            refine (wrap_add (addS x.next T) off).trans ?_
            rw [add_swap, hAT]
          obtain ⟨AV, hAV⟩ : ∃ AV, addS AT T = AV := ⟨_, rfl⟩
          obtain ⟨y, hy⟩ : ∃ y, acceptX x AT D fe = y := ⟨_, rfl⟩
          have HOY : Hid (OkX y) := by rw [← hy]; exact accept_ok HOX.out AT D fe
          have hmv := accept_moved x AT T D fe
          rw [hy, hAV] at hmv
          rw [hAV] at HAV hwb
          have hD10 : D.length ≤ 1000 := by rw [HDK.out]; omega
          have HCA := Lib.hid (fun w' S S2 v (hr : Rvs w' S (rqC (conc x) vD vA).toList (rqD (conc x))) (hv : Rv w' S2 v (bytesD D)) => accept_any x (rqC (conc x) vD vA) S S2 AT v D fe w' hr HOX.out HAU.out hv hD10)
          have HCB := Lib.hid (fun w' S S2 v (hr : Rvs w' S (rqC (conc (mvX T x)) vE vB).toList (rqD (conc (mvX T x)))) (hv : Rv w' S2 v (bytesD D)) => accept_any (mvX T x) (rqC (conc (mvX T x)) vE vB) S S2 AV v D fe w' hr HOM.out HAV.out hv hD10)
          rw [hy] at HCA
          rw [hmv] at HCB
          clear hy hmv hD10 hAV hAT
          have HXO := Lib.hid (F4.out.at (i := 0) rfl)
          have HX2 := Lib.hid (F4.out.at (i := 1) rfl)
          have HX1 := Lib.hid (F4.out.at (i := 2) rfl)
          have HR0 : Hid (Rvs w5 (Nv [go, g2, g1]) [.slice B k eb] [bytesD D]) := Lib.hid (F4.out.val (i := 0) rfl)
          have HR2 : Hid (Rvs w5 (Nv [go, g2, g1]) (rqC (conc (mvX T x)) vE vB).toList (rqD (conc (mvX T x)))) := Lib.hid (F4.out.val (i := 1) rfl)
          have HR1 : Hid (Rvs w5 (Nv [go, g2, g1]) (rqC (conc x) vD vA).toList (rqD (conc x))) := Lib.hid (F4.out.val (i := 2) rfl)
          have HS1 : Hid (¬ (Nv [go, g2, g1]) g1) := Lib.hid (fun h => h (by simp))
          have HS2 : Hid (¬ (Nv [go, g2, g1]) g2) := Lib.hid (fun h => h (by simp))
          have HBIG : Hid (∀ b, w5.heap.size ≤ b → (Nv [go, g2, g1]) b) := Lib.hid (fun b hb hm => by
            have := F4.out.lt b hm
            omega)
          have NE : Hid (g1 ≠ g2) := F4.out.ne (i := 2) (j := 1) rfl rfl (by decide)
          have NO1 : Hid (go ≠ g1) := F4.out.ne (i := 0) (j := 2) rfl rfl (by decide)
          have NO2 : Hid (go ≠ g2) := F4.out.ne (i := 0) (j := 1) rfl rfl (by decide)
          go_upto_region 10 with (fail)
          clear o0 o1 o2 o3
          apply wp_region_relyG [24, 25] (OldD w5 (Nv [go, g2, g1]) 24 g1 29 (rqC (conc x) vD vA) (rqD (conc y)) 25 g2 29 (rqC (conc (mvX T x)) vE vB) (rqD (conc (mvX T y)))) (RL [Is (.agg (rqC (conc x) vD vA)), Is (.pointer (some ⟨g1, 0, none⟩)), Is (.int .u32 (conc x).next), Is (.pointer (some ⟨go, 0, none⟩)), Is (.int .i64 off), Is _, Is (.int .u32 AT), Is (.pointer (some ⟨go, 1, none⟩)), Is (.slice B k eb), Is (.pointer (some ⟨go, 2, none⟩)), Is (.bool fe), Rd1 (Nv [go, g2, g1]) (rqD (conc y)), Is (.agg (rqC (conc (mvX T x)) vE vB)), Is (.pointer (some ⟨g2, 0, none⟩)), Is (.int .u32 (conc (mvX T x)).next), Is (.pointer (some ⟨go, 0, none⟩)), Is (.int .i64 off), Is _, Is (.int .u32 AV), Is (.pointer (some ⟨go, 1, none⟩)), Is (.slice B k eb), Is (.pointer (some ⟨go, 2, none⟩)), Is (.bool fe), Rd1 (Nv [go, g2, g1]) (rqD (conc (mvX T y))), Any, Any]) [false, false, false, false, false, false, false, false, false, false, false, false, false, false, false, false, false, false, false, false, false, false, false, false, false, false, false, false, false, false, false, false, false, false, false, false, false, false, false, false, false, false, false, false, false, false, false, true, true, true, true, true, true, true, true, true, true, true, true, true, true, true, true, true, true, true, true, true, true, true, true, false, false, false, false, false, false, false, false, false, false, false, false, false, false, false, false, false, false, false, false, false, false, false, false, false, false, false, false, false, false, false, false, false, false, false, false, false, false, false, false, false, false, false, false, false, false, false, false, false, false, false, false, false, false, false, false, false, false, false, false, false, false, false, false, false, false, false, false, false, false, false, false, false, false, false, false, false, false, false, false, false, false, false, false, false, false, false, false, false, false, false, false, false, false, false, false, false, false]
          · kernel_rfl
          · kernel_rfl
          · kernel_rfl
          · refine ⟨?_, ?_, ?_, ?_, ?_, ?_, ?_, ?_, ?_, ?_, ?_, ?_, ?_, ?_, ?_, ?_, ?_, ?_, ?_, ?_, ?_, ?_, ?_, ?_, ?_, ?_, trivial⟩
            · intro L ev w' hC hL hx K hK
              have e7 : ev (.tmp 7) = _ := hx.base 7 (by kernel_rfl)
              have HK := Lib.hid hK
              have HC := Lib.hid hC
              have HL := Lib.hid hL
              have HX := Lib.hid hx
              have hc := hx.cst
              skip
              clear hx hK hC hL
              have nst : L 24 = false := Bool.eq_false_iff.2 fun h => by have h9 := (HX.out.closed 11 _ 0 rfl (HX.out.closed 24 _ 11 rfl h (by kernel_rfl)) (by kernel_rfl)); rw [HL.out] at h9; cases h9
              have q1 : ev (.tmp 7) = .pointer (some ⟨g1, 0, none⟩) := e7
              have hld := run_loadVar_row (P := Try.prog) w' g1 29 29 (rqC (conc x) vD vA) (0, 0) _ (HC.out.old1 nst) Try.underlying29 rfl (by kernel_rfl)
              unfold Run
              rw [rely_load 29 _ rfl q1 hld]
              exact HK.out _ _ (.inl ⟨Below.refl _ _, by decide⟩) rfl
            · intro L ev w' hC hL hx K hK
              have e7 : ev (.tmp 7) = _ := hx.base 7 (by kernel_rfl)
              have HK := Lib.hid hK
              have HC := Lib.hid hC
              have HL := Lib.hid hL
              have HX := Lib.hid hx
              have hc := hx.cst
              skip
              clear hx hK hC hL
              unfold Run
              simp [execOp, Upon, go_sem, *]
              exact HK.out _ _ (.inl ⟨Below.refl _ _, by decide⟩) rfl
            · intro L ev w' hC hL hx K hK
              have e48 := hx.held 1 _ rfl (by kernel_rfl)
              change ev (.tmp 48) = _ at e48
              have HK := Lib.hid hK
              have HC := Lib.hid hC
              have HL := Lib.hid hL
              have HX := Lib.hid hx
              have hc := hx.cst
              skip
              clear hx hK hC hL
              have nst : L 24 = false := Bool.eq_false_iff.2 fun h => by have h9 := (HX.out.closed 6 _ 2 rfl (HX.out.closed 11 _ 6 rfl (HX.out.closed 24 _ 11 rfl h (by kernel_rfl)) (by kernel_rfl)) (by kernel_rfl)); rw [HL.out] at h9; cases h9
              have q1 : ev (.tmp 48) = .pointer (some ⟨g1, 0, none⟩) := e48
              have hld := run_loadVar_cell (P := Try.prog) w' ⟨g1, 0, none⟩ 22 (.int .u32 (conc x).next) _ ((cell_of_row _ _ _ _ _ _ (HC.out.old1 nst)).trans rfl) Try.underlying22 rfl
              unfold Run
              rw [rely_load 22 _ rfl q1 hld]
              exact HK.out _ _ (.inl ⟨Below.refl _ _, by decide⟩) rfl
            · intro L ev w' hC hL hx K hK
              have e10 : ev (.tmp 10) = _ := hx.base 10 (by kernel_rfl)
              have HK := Lib.hid hK
              have HC := Lib.hid hC
              have HL := Lib.hid hL
              have HX := Lib.hid hx
              have hc := hx.cst
              skip
              clear hx hK hC hL
              unfold Run
              simp [execOp, Upon, go_sem, *]
              exact HK.out _ _ (.inl ⟨Below.refl _ _, by decide⟩) rfl
            · intro L ev w' hC hL hx K hK
              have e50 := hx.held 3 _ rfl (by kernel_rfl)
              change ev (.tmp 50) = _ at e50
              have HK := Lib.hid hK
              have HC := Lib.hid hC
              have HL := Lib.hid hL
              have HX := Lib.hid hx
              have hc := hx.cst
              skip
              clear hx hK hC hL
              have q1 : ev (.tmp 50) = .pointer (some ⟨go, 0, none⟩) := e50
              have hld := run_loadVar_cell (P := Try.prog) w' ⟨go, 0, none⟩ 3 (.int .i64 off) _ ((cell_of_row _ _ _ _ _ _ (HC.out.keep HXO.out NO1.out NO2.out)).trans rfl) Try.underlying3 rfl
              unfold Run
              rw [rely_load 3 _ rfl q1 hld]
              exact HK.out _ _ (.inl ⟨Below.refl _ _, by decide⟩) rfl
            · intro L ev w' hC hL hx K hK
              have e51 := hx.held 4 _ rfl (by kernel_rfl)
              change ev (.tmp 51) = _ at e51
              have HK := Lib.hid hK
              have HC := Lib.hid hC
              have HL := Lib.hid hL
              have HX := Lib.hid hx
              have hc := hx.cst
              skip
              clear hx hK hC hL
              unfold Run
              simp [execOp, Upon, go_sem, *]
              exact HK.out _ _ (.inl ⟨Below.refl _ _, by decide⟩) rfl
            · intro L ev w' hC hL hx K hK
              have e49 := hx.held 2 _ rfl (by kernel_rfl)
              have e52 := hx.held 5 _ rfl (by kernel_rfl)
              change ev (.tmp 49) = _ at e49
              change ev (.tmp 52) = _ at e52
              have HK := Lib.hid hK
              have HC := Lib.hid hC
              have HL := Lib.hid hL
              have HX := Lib.hid hx
              have hc := hx.cst
              skip
              clear hx hK hC hL
              unfold Run
              simp [execOp, Upon, go_sem, *]
              exact HK.out _ _ (.inl ⟨Below.refl _ _, by decide⟩) rfl
            · intro L ev w' hC hL hx K hK
              have e10 : ev (.tmp 10) = _ := hx.base 10 (by kernel_rfl)
              have HK := Lib.hid hK
              have HC := Lib.hid hC
              have HL := Lib.hid hL
              have HX := Lib.hid hx
              have hc := hx.cst
              skip
              clear hx hK hC hL
              unfold Run
              simp [execOp, Upon, go_sem, *]
              exact HK.out _ _ (.inl ⟨Below.refl _ _, by decide⟩) rfl
            · intro L ev w' hC hL hx K hK
              have e54 := hx.held 7 _ rfl (by kernel_rfl)
              change ev (.tmp 54) = _ at e54
              have HK := Lib.hid hK
              have HC := Lib.hid hC
              have HL := Lib.hid hL
              have HX := Lib.hid hx
              have hc := hx.cst
              skip
              clear hx hK hC hL
              have q1 : ev (.tmp 54) = .pointer (some ⟨go, 1, none⟩) := e54
              have hld := run_loadVar_cell (P := Try.prog) w' ⟨go, 1, none⟩ 26 (.slice B k eb) _ ((cell_of_row _ _ _ _ _ _ (HC.out.keep HXO.out NO1.out NO2.out)).trans rfl) Try.underlying26 rfl
              unfold Run
              rw [rely_load 26 _ rfl q1 hld]
              exact HK.out _ _ (.inl ⟨Below.refl _ _, by decide⟩) rfl
            · intro L ev w' hC hL hx K hK
              have e10 : ev (.tmp 10) = _ := hx.base 10 (by kernel_rfl)
              have HK := Lib.hid hK
              have HC := Lib.hid hC
              have HL := Lib.hid hL
              have HX := Lib.hid hx
              have hc := hx.cst
              skip
              clear hx hK hC hL
              unfold Run
              simp [execOp, Upon, go_sem, *]
              exact HK.out _ _ (.inl ⟨Below.refl _ _, by decide⟩) rfl
            · intro L ev w' hC hL hx K hK
              have e56 := hx.held 9 _ rfl (by kernel_rfl)
              change ev (.tmp 56) = _ at e56
              have HK := Lib.hid hK
              have HC := Lib.hid hC
              have HL := Lib.hid hL
              have HX := Lib.hid hx
              have hc := hx.cst
              skip
              clear hx hK hC hL
              have q1 : ev (.tmp 56) = .pointer (some ⟨go, 2, none⟩) := e56
              have hld := run_loadVar_cell (P := Try.prog) w' ⟨go, 2, none⟩ 4 (.bool fe) _ ((cell_of_row _ _ _ _ _ _ (HC.out.keep HXO.out NO1.out NO2.out)).trans rfl) Try.underlying4 rfl
              unfold Run
              rw [rely_load 4 _ rfl q1 hld]
              exact HK.out _ _ (.inl ⟨Below.refl _ _, by decide⟩) rfl
            · intro L ev w' hC hL hx K hK
              have e47 := hx.held 0 _ rfl (by kernel_rfl)
              have e53 := hx.held 6 _ rfl (by kernel_rfl)
              have e55 := hx.held 8 _ rfl (by kernel_rfl)
              have e57 := hx.held 10 _ rfl (by kernel_rfl)
              change ev (.tmp 47) = _ at e47
              change ev (.tmp 53) = _ at e53
              change ev (.tmp 55) = _ at e55
              change ev (.tmp 57) = _ at e57
              have HK := Lib.hid hK
              have HC := Lib.hid hC
              have HL := Lib.hid hL
              have HX := Lib.hid hx
              have hc := hx.cst
              have hf := hx.fn
              clear hx hK hC hL
              unfold Run
              simp [execOp, Upon, go_sem, *]
              refine (HCA.out w' _ _ _ (HC.out.val HR1.out HS1.out HS2.out) (rvs_cons.1 (HC.out.val HR0.out HS1.out HS2.out)).1).mono ?_
              rintro e w2 ⟨cs', rfl, hr, hb⟩
              refine ⟨_, rfl, HK.out _ _ (.inl ⟨hb, by decide⟩) ⟨cs', rfl, hr.wide fun b hb2 => ?_⟩⟩
              rcases hb2 with hb2 | hb2
              · exact hb2
              · exact HBIG.out b (Nat.le_trans HC.out.1.size hb2)
            · intro L ev w' hC hL hx K hK
              have e8 : ev (.tmp 8) = _ := hx.base 8 (by kernel_rfl)
              have HK := Lib.hid hK
              have HC := Lib.hid hC
              have HL := Lib.hid hL
              have HX := Lib.hid hx
              have hc := hx.cst
              skip
              clear hx hK hC hL
              have nst : L 25 = false := Bool.eq_false_iff.2 fun h => by have h9 := (HX.out.closed 23 _ 12 rfl (HX.out.closed 25 _ 23 rfl h (by kernel_rfl)) (by kernel_rfl)); rw [HL.out] at h9; cases h9
              have q1 : ev (.tmp 8) = .pointer (some ⟨g2, 0, none⟩) := e8
              have hld := run_loadVar_row (P := Try.prog) w' g2 29 29 (rqC (conc (mvX T x)) vE vB) (0, 0) _ (HC.out.old2 nst) Try.underlying29 rfl (by kernel_rfl)
              unfold Run
              rw [rely_load 29 _ rfl q1 hld]
              exact HK.out _ _ (.inl ⟨Below.refl _ _, by decide⟩) rfl
            · intro L ev w' hC hL hx K hK
              have e8 : ev (.tmp 8) = _ := hx.base 8 (by kernel_rfl)
              have HK := Lib.hid hK
              have HC := Lib.hid hC
              have HL := Lib.hid hL
              have HX := Lib.hid hx
              have hc := hx.cst
              skip
              clear hx hK hC hL
              unfold Run
              simp [execOp, Upon, go_sem, *]
              exact HK.out _ _ (.inl ⟨Below.refl _ _, by decide⟩) rfl
            · intro L ev w' hC hL hx K hK
              have e60 := hx.held 13 _ rfl (by kernel_rfl)
              change ev (.tmp 60) = _ at e60
              have HK := Lib.hid hK
              have HC := Lib.hid hC
              have HL := Lib.hid hL
              have HX := Lib.hid hx
              have hc := hx.cst
              skip
              clear hx hK hC hL
              have nst : L 25 = false := Bool.eq_false_iff.2 fun h => by have h9 := (HX.out.closed 18 _ 14 rfl (HX.out.closed 23 _ 18 rfl (HX.out.closed 25 _ 23 rfl h (by kernel_rfl)) (by kernel_rfl)) (by kernel_rfl)); rw [HL.out] at h9; cases h9
              have q1 : ev (.tmp 60) = .pointer (some ⟨g2, 0, none⟩) := e60
              have hld := run_loadVar_cell (P := Try.prog) w' ⟨g2, 0, none⟩ 22 (.int .u32 (conc (mvX T x)).next) _ ((cell_of_row _ _ _ _ _ _ (HC.out.old2 nst)).trans rfl) Try.underlying22 rfl
              unfold Run
              rw [rely_load 22 _ rfl q1 hld]
              exact HK.out _ _ (.inl ⟨Below.refl _ _, by decide⟩) rfl
            · intro L ev w' hC hL hx K hK
              have e10 : ev (.tmp 10) = _ := hx.base 10 (by kernel_rfl)
              have HK := Lib.hid hK
              have HC := Lib.hid hC
              have HL := Lib.hid hL
              have HX := Lib.hid hx
              have hc := hx.cst
              skip
              clear hx hK hC hL
              unfold Run
              simp [execOp, Upon, go_sem, *]
              exact HK.out _ _ (.inl ⟨Below.refl _ _, by decide⟩) rfl
            · intro L ev w' hC hL hx K hK
              have e62 := hx.held 15 _ rfl (by kernel_rfl)
              change ev (.tmp 62) = _ at e62
              have HK := Lib.hid hK
              have HC := Lib.hid hC
              have HL := Lib.hid hL
              have HX := Lib.hid hx
              have hc := hx.cst
              skip
              clear hx hK hC hL
              have q1 : ev (.tmp 62) = .pointer (some ⟨go, 0, none⟩) := e62
              have hld := run_loadVar_cell (P := Try.prog) w' ⟨go, 0, none⟩ 3 (.int .i64 off) _ ((cell_of_row _ _ _ _ _ _ (HC.out.keep HXO.out NO1.out NO2.out)).trans rfl) Try.underlying3 rfl
              unfold Run
              rw [rely_load 3 _ rfl q1 hld]
              exact HK.out _ _ (.inl ⟨Below.refl _ _, by decide⟩) rfl
            · intro L ev w' hC hL hx K hK
              have e63 := hx.held 16 _ rfl (by kernel_rfl)
              change ev (.tmp 63) = _ at e63
              have HK := Lib.hid hK
              have HC := Lib.hid hC
              have HL := Lib.hid hL
              have HX := Lib.hid hx
              have hc := hx.cst
              skip
              clear hx hK hC hL
              unfold Run
              simp [execOp, Upon, go_sem, *]
              exact HK.out _ _ (.inl ⟨Below.refl _ _, by decide⟩) rfl
            · intro L ev w' hC hL hx K hK
              have e61 := hx.held 14 _ rfl (by kernel_rfl)
              have e64 := hx.held 17 _ rfl (by kernel_rfl)
              change ev (.tmp 61) = _ at e61
              change ev (.tmp 64) = _ at e64
              have HK := Lib.hid hK
              have HC := Lib.hid hC
              have HL := Lib.hid hL
              have HX := Lib.hid hx
              have hc := hx.cst
              skip
              clear hx hK hC hL
              unfold Run
              simp [execOp, Upon, go_sem, *]
              exact HK.out _ _ (.inl ⟨Below.refl _ _, by decide⟩) rfl
            · intro L ev w' hC hL hx K hK
              have e10 : ev (.tmp 10) = _ := hx.base 10 (by kernel_rfl)
              have HK := Lib.hid hK
              have HC := Lib.hid hC
              have HL := Lib.hid hL
              have HX := Lib.hid hx
              have hc := hx.cst
              skip
              clear hx hK hC hL
              unfold Run
              simp [execOp, Upon, go_sem, *]
              exact HK.out _ _ (.inl ⟨Below.refl _ _, by decide⟩) rfl
            · intro L ev w' hC hL hx K hK
              have e66 := hx.held 19 _ rfl (by kernel_rfl)
              change ev (.tmp 66) = _ at e66
              have HK := Lib.hid hK
              have HC := Lib.hid hC
              have HL := Lib.hid hL
              have HX := Lib.hid hx
              have hc := hx.cst
              skip
              clear hx hK hC hL
              have q1 : ev (.tmp 66) = .pointer (some ⟨go, 1, none⟩) := e66
              have hld := run_loadVar_cell (P := Try.prog) w' ⟨go, 1, none⟩ 26 (.slice B k eb) _ ((cell_of_row _ _ _ _ _ _ (HC.out.keep HXO.out NO1.out NO2.out)).trans rfl) Try.underlying26 rfl
              unfold Run
              rw [rely_load 26 _ rfl q1 hld]
              exact HK.out _ _ (.inl ⟨Below.refl _ _, by decide⟩) rfl
            · intro L ev w' hC hL hx K hK
              have e10 : ev (.tmp 10) = _ := hx.base 10 (by kernel_rfl)
              have HK := Lib.hid hK
              have HC := Lib.hid hC
              have HL := Lib.hid hL
              have HX := Lib.hid hx
              have hc := hx.cst
              skip
              clear hx hK hC hL
              unfold Run
              simp [execOp, Upon, go_sem, *]
              exact HK.out _ _ (.inl ⟨Below.refl _ _, by decide⟩) rfl
            · intro L ev w' hC hL hx K hK
              have e68 := hx.held 21 _ rfl (by kernel_rfl)
              change ev (.tmp 68) = _ at e68
              have HK := Lib.hid hK
              have HC := Lib.hid hC
              have HL := Lib.hid hL
              have HX := Lib.hid hx
              have hc := hx.cst
              skip
              clear hx hK hC hL
              have q1 : ev (.tmp 68) = .pointer (some ⟨go, 2, none⟩) := e68
              have hld := run_loadVar_cell (P := Try.prog) w' ⟨go, 2, none⟩ 4 (.bool fe) _ ((cell_of_row _ _ _ _ _ _ (HC.out.keep HXO.out NO1.out NO2.out)).trans rfl) Try.underlying4 rfl
              unfold Run
              rw [rely_load 4 _ rfl q1 hld]
              exact HK.out _ _ (.inl ⟨Below.refl _ _, by decide⟩) rfl
            · intro L ev w' hC hL hx K hK
              have e59 := hx.held 12 _ rfl (by kernel_rfl)
              have e65 := hx.held 18 _ rfl (by kernel_rfl)
              have e67 := hx.held 20 _ rfl (by kernel_rfl)
              have e69 := hx.held 22 _ rfl (by kernel_rfl)
              change ev (.tmp 59) = _ at e59
              change ev (.tmp 65) = _ at e65
              change ev (.tmp 67) = _ at e67
              change ev (.tmp 69) = _ at e69
              have HK := Lib.hid hK
              have HC := Lib.hid hC
              have HL := Lib.hid hL
              have HX := Lib.hid hx
              have hc := hx.cst
              have hf := hx.fn
              clear hx hK hC hL
              unfold Run
              simp [execOp, Upon, go_sem, *]
              refine (HCB.out w' _ _ _ (HC.out.val HR2.out HS1.out HS2.out) (rvs_cons.1 (HC.out.val HR0.out HS1.out HS2.out)).1).mono ?_
              rintro e w2 ⟨cs', rfl, hr, hb⟩
              refine ⟨_, rfl, HK.out _ _ (.inl ⟨hb, by decide⟩) ⟨cs', rfl, hr.wide fun b hb2 => ?_⟩⟩
              rcases hb2 with hb2 | hb2
              · exact hb2
              · exact HBIG.out b (Nat.le_trans HC.out.1.size hb2)
            · intro L ev w' hC hL hx K hK
              have e7 : ev (.tmp 7) = _ := hx.base 7 (by kernel_rfl)
              have e58 := hx.held 11 _ rfl (by kernel_rfl)
              change (Rd1 (Nv [go, g2, g1]) (rqD (conc y)) : Pred) (ev (.tmp 58)) w' at e58
              have HK := Lib.hid hK
              have HC := Lib.hid hC
              have HL := Lib.hid hL
              have HX := Lib.hid hx
              have hc := hx.cst
              skip
              clear hx hK hC hL
              obtain ⟨C, hC, hr⟩ := e58
              have qp : ev (.tmp 7) = .pointer (some ⟨g1, 0, none⟩) := e7
              have nst : L 24 = false := HL.out
              have hgh := HC.out.old1 nst
              have hsz : C.size = 6 := hr.1
              have hst := run_storeVar_row (P := Try.prog) w' g1 29 29 (rqC (conc x) vD vA) C hgh (by rw [hsz]; kernel_rfl) (by rw [hsz]; rfl) (Array.all_eq_true_iff_forall_mem.2 fun u hu => hr.ones u (by simpa using hu))
              unfold Run
              rw [rely_store 29 _ _ rfl qp hC hst]
              refine HK.out _ _ (.inr ⟨HC.out.store1 nst (by rw [hsz]; rfl) hr HS1.out NE.out (by decide), fun j hj hlj u hr => ?_⟩) trivial
              rcases j with _ | _ | _ | _ | _ | _ | _ | _ | _ | _ | _ | _ | _ | _ | _ | _ | _ | _ | _ | _ | _ | _ | _ | _ | _ | _ | j
              · exact hr
              · exact hr
              · exact hr
              · exact hr
              · exact hr
              · exact hr
              · exact hr
              · exact hr
              · exact hr
              · exact hr
              · exact hr
              · exact rd1_set hr HS1.out _
              · exact hr
              · exact hr
              · exact hr
              · exact hr
              · exact hr
              · exact hr
              · exact hr
              · exact hr
              · exact hr
              · exact hr
              · exact hr
              · exact rd1_set hr HS1.out _
              · exact absurd rfl hj
              · exact trivial
              · exact trivial
            · intro L ev w' hC hL hx K hK
              have e8 : ev (.tmp 8) = _ := hx.base 8 (by kernel_rfl)
              have e70 := hx.held 23 _ rfl (by kernel_rfl)
              change (Rd1 (Nv [go, g2, g1]) (rqD (conc (mvX T y))) : Pred) (ev (.tmp 70)) w' at e70
              have HK := Lib.hid hK
              have HC := Lib.hid hC
              have HL := Lib.hid hL
              have HX := Lib.hid hx
              have hc := hx.cst
              skip
              clear hx hK hC hL
              obtain ⟨C, hC, hr⟩ := e70
              have qp : ev (.tmp 8) = .pointer (some ⟨g2, 0, none⟩) := e8
              have nst : L 25 = false := HL.out
              have hgh := HC.out.old2 nst
              have hsz : C.size = 6 := hr.1
              have hst := run_storeVar_row (P := Try.prog) w' g2 29 29 (rqC (conc (mvX T x)) vE vB) C hgh (by rw [hsz]; kernel_rfl) (by rw [hsz]; rfl) (Array.all_eq_true_iff_forall_mem.2 fun u hu => hr.ones u (by simpa using hu))
              unfold Run
              rw [rely_store 29 _ _ rfl qp hC hst]
              refine HK.out _ _ (.inr ⟨HC.out.store2 nst (by rw [hsz]; rfl) hr HS2.out NE.out (by decide), fun j hj hlj u hr => ?_⟩) trivial
              rcases j with _ | _ | _ | _ | _ | _ | _ | _ | _ | _ | _ | _ | _ | _ | _ | _ | _ | _ | _ | _ | _ | _ | _ | _ | _ | _ | j
              · exact hr
              · exact hr
              · exact hr
              · exact hr
              · exact hr
              · exact hr
              · exact hr
              · exact hr
              · exact hr
              · exact hr
              · exact hr
              · exact rd1_set hr HS2.out _
              · exact hr
              · exact hr
              · exact hr
              · exact hr
              · exact hr
              · exact hr
              · exact hr
              · exact hr
              · exact hr
              · exact hr
              · exact hr
              · exact rd1_set hr HS2.out _
              · exact trivial
              · exact absurd rfl hj
              · exact trivial
          · exact rl_mono ⟨is_mono _, is_mono _, is_mono _, is_mono _, is_mono _, is_mono _, is_mono _, is_mono _, is_mono _, is_mono _, is_mono _, rd1_mono _ _, is_mono _, is_mono _, is_mono _, is_mono _, is_mono _, is_mono _, is_mono _, is_mono _, is_mono _, is_mono _, is_mono _, rd1_mono _ _, any_mono, any_mono, trivial⟩
          · exact fun L L' w' h1 hg => hg.agree (h1 24 (by simp)) (h1 25 (by simp))
          · exact fun L w' w'' hb hg => hg.below hb
          · exact OldD.start HX1.out HX2.out
          · simp
          intro us wr hG hH
          obtain ⟨-, -, -, -, -, -, -, -, -, -, -, -, -, -, -, -, -, -, -, -, -, -, -, -, -, -, -⟩ := hH
          simp only [fillM]
          obtain ⟨hG9, ⟨C1, hvn1, hrn1⟩, C2, hvn2, hrn2⟩ := OldD.done hG
          have HVN1 := Lib.hid hvn1
          have HVN2 := Lib.hid hvn2
          have HRN1 := Lib.hid hrn1
          have HRN2 := Lib.hid hrn2
          have HG9 := Lib.hid hG9
          clear hG hG9 hvn1 hvn2 hrn1 hrn2
          generalize us 47 = v47
          generalize us 48 = v48
          generalize us 49 = v49
          generalize us 50 = v50
          generalize us 51 = v51
          generalize us 52 = v52
          generalize us 53 = v53
          generalize us 54 = v54
          generalize us 55 = v55
          generalize us 56 = v56
          generalize us 57 = v57
          generalize us 58 = v58
          generalize us 59 = v59
          generalize us 60 = v60
          generalize us 61 = v61
          generalize us 62 = v62
          generalize us 63 = v63
          generalize us 64 = v64
          generalize us 65 = v65
          generalize us 66 = v66
          generalize us 67 = v67
          generalize us 68 = v68
          generalize us 69 = v69
          generalize us 70 = v70
          obtain ⟨a, b, rfl, -⟩ := rq_of HRN1.out
          obtain ⟨u, z, rfl, -⟩ := rq_of HRN2.out
          have F5 := Lib.hid (F4.out.put2 (i := 2) (j := 1) rfl rfl (by decide) HG9.out HVN1.out HVN2.out)
          have F6 : Hid (Frm w wr [(go, #[.int .i64 off, .slice B k eb, .bool fe, .int .i64 rd], 36), (g2, (rqC (conc (mvX T y)) u z), 29), (g1, (rqC (conc y) a b), 29)] [((rqC (conc (mvX T y)) u z).toList, rqD (conc (mvX T y))), ((rqC (conc y) a b).toList, rqD (conc y))]) := Lib.hid (((F5.out.drop (qs := []) 0 rfl (fun p hp => by simp at hp)).add HRN1.out).add HRN2.out)
          clear F4 F5 HG9 HVN1 HVN2 HRN1 HRN2 HXO HX2 HX1 HR0 HR2 HR1 HS1 HS2 HBIG NE NO1 NO2 HCA HCB
          go_wp2
          go_meet
          case rel => exact ⟨y, a, b, u, z, HOY, F6⟩
      case rest =>
        obtain ⟨y, vDy, vAy, vEy, vBy, HOY, F5⟩ := hcut
        clear F4 o0 o1 o2 o3
        obtain ⟨md, hmd⟩ : ∃ md, (conc y).data.length = md := ⟨_, rfl⟩
        have HMD := Lib.hid hmd
        have HMM : Hid ((conc (mvX T y)).data.length = md) := hmd
        have HSD : Hid ((conc (mvX T y)).data = (conc y).data) := rfl
        obtain ⟨na, hna⟩ : ∃ na, (runsL 0 y.got).length = na := ⟨_, rfl⟩
        have HNA : Hid ((conc y).ahead.length = na) := by show ((runsL 0 y.got).map _).length = na; rw [List.length_map, hna]
        have HNM : Hid ((conc (mvX T y)).ahead.length = na) := by show ((runsL 0 y.got).map _).length = na; rw [List.length_map, hna]
        have HNR := Lib.hid hna
        have hns : na ≤ 1000 := by
          have h1 := runs_count y.got 0
          have h2 := HOY.out.runs
          rw [hna] at h1
          split at h1
          · split at h1 <;> omega
          · omega
        clear hmd hna
        obtain ⟨D1, e1, h1, -⟩ := rv_bytes.1 (rq_data (F5.out.val (i := 1) rfl))
        rw [HMD.out] at h1
        subst h1
        obtain ⟨D2, e2, h1, -⟩ := rv_bytes.1 (rq_data (F5.out.val (i := 0) rfl))
        rw [HMM.out] at h1
        subst h1
        obtain ⟨P1, f1, h1, -, hf1, hf2, -⟩ := pc_elem (rq_ahead (F5.out.val (i := 1) rfl))
        rw [HNA.out] at h1 hf1
        subst h1
        obtain ⟨P2, f2, h1, -, hf3, hf4, -⟩ := pc_elem (rq_ahead (F5.out.val (i := 0) rfl))
        rw [HNM.out] at h1 hf3
        subst h1
        have hf2b : f1 ≤ 9223372036854775807 := by unfold maxLen at hf2; omega
        have hf4b : f2 ≤ 9223372036854775807 := by unfold maxLen at hf4; omega
        have hv1 := conv_bytes (rq_data (F5.out.val (i := 1) rfl)) wc (Below.refl _ _)
        have hv2 := conv_bytes (rq_data (F5.out.val (i := 0) rfl)) wc (Below.refl _ _)
        rw [HSD.out] at hv2
        obtain ⟨x0, x1, x2, x3, x4, x5⟩ := rq_cells (F5.out.at (i := 2) rfl)
        obtain ⟨z0, z1, z2, z3, z4, z5⟩ := rq_cells (F5.out.at (i := 1) rfl)
        have hn0 : (conc (mvX T y)).next = addS y.next T := rfl
        have hk0 : (conc (mvX T y)).known = (conc y).known := rfl
        have hd0 : (conc (mvX T y)).done = (conc y).done := rfl
        rw [hn0] at z0
        rw [hk0] at z3
        rw [hd0] at z5
        have hx0 : (conc y).next = y.next := rfl
        rw [hx0] at x0
        obtain ⟨nx, hnx⟩ : ∃ nx, y.next = nx := ⟨_, rfl⟩
        obtain ⟨mx, hmx⟩ : ∃ mx, addS nx T = mx := ⟨_, rfl⟩
        obtain ⟨kn, hkn⟩ : ∃ kn, (conc y).known = kn := ⟨_, rfl⟩
        obtain ⟨dn, hdn⟩ : ∃ dn, (conc y).done = dn := ⟨_, rfl⟩
        obtain ⟨fi, hfi⟩ : ∃ fi, (conc y).fin = fi := ⟨_, rfl⟩
        obtain ⟨fm, hfm⟩ : ∃ fm, (conc (mvX T y)).fin = fm := ⟨_, rfl⟩
        have hsf : kn = true → (fm - n2) % 4294967296 = (fi - n1) % 4294967296 := fun hk => by
          rw [← hfm, ← hfi]
          refine fin_moved HT.out (hkn.trans hk) (.inr ?_)
          have := hkn.trans hk
          exact of_decide_eq_true this
        have hsn : (mx - n2) % 4294967296 = (nx - n1) % 4294967296 := by rw [← hmx]; exact sub_moved HT.out
        rw [hnx] at x0
        rw [hnx, hmx] at z0
        rw [hkn] at x3 z3
        rw [hdn] at x5 z5
        rw [hfi] at x4
        rw [hfm] at z4
        have HNX := Lib.hid hnx
        clear hn0 hk0 hd0 hx0 hnx hmx hkn hdn hfi hfm hf1 hf2 hf3 hf4
        cases kn
        · clear hsf
          go_upto_region 13 with (fail)
          go_wp2
          clear hv1 hv2 x0 x1 x2 x3 x4 x5 z0 z1 z2 z3 z4 z5 hsn 
          go_loopw [130] (fun t130 wr => ∃ j : Nat, j ≤ na ∧ t130 = .int .i64 (j : Int) ∧ Hid (Frm w wr [(go, #[.int .i64 off, .slice B k eb, .bool fe, .int .i64 rd], 36), (g2, (rqC (conc (mvX T y)) (.slice D2 md e2) (.slice P2 na f2)), 29), (g1, (rqC (conc y) (.slice D1 md e1) (.slice P1 na f1)), 29)] [((rqC (conc (mvX T y)) (.slice D2 md e2) (.slice P2 na f2)).toList, rqD (conc (mvX T y))), ((rqC (conc y) (.slice D1 md e1) (.slice P1 na f1)).toList, rqD (conc y))])) (fun t130 _ => na - (intOf t130).toNat)
          case atStart => exact ⟨0, Nat.zero_le _, rfl, F5⟩
          case round =>
            clear F5
            obtain ⟨j, hj, rfl, F6⟩ := hrel
            by_cases hjl : j < na
            · obtain ⟨q, hq⟩ : ∃ q, (runsL 0 y.got)[j]? = some q := ⟨_, List.getElem?_eq_getElem (by rw [HNR.out]; exact hjl)⟩
              obtain ⟨A1', c1', e9, -, -, -, hel1⟩ := pc_elem (rq_ahead (F6.out.val (i := 1) rfl))
              obtain ⟨ad1, B1, b1, hp1, -, hc1, hc2, hb1⟩ := hel1 j ⟨addS y.next q.1, q.2⟩ (by show ((runsL 0 y.got).map _)[j]? = _; rw [List.getElem?_map, hq]; rfl)
              injection e9 with e9 _ _
              rw [hp1] at e9
              subst e9
              obtain ⟨A2', c2', e8, -, -, -, hel2⟩ := pc_elem (rq_ahead (F6.out.val (i := 0) rfl))
              obtain ⟨ad2, B2, b2, hp2, -, hc3, hc4, hb2⟩ := hel2 j ⟨addS (addS y.next T) q.1, q.2⟩ (by show ((runsL 0 y.got).map _)[j]? = _; rw [List.getElem?_map, hq]; rfl)
              injection e8 with e8 _ _
              rw [hp2] at e8
              subst e8
              obtain ⟨qo, qd⟩ := q
              dsimp only at hc1 hc2 hb1 hc3 hc4 hb2
              rw [HNX.out] at hc1 hc3
              obtain ⟨s1, hs1⟩ : ∃ s1, addS nx qo = s1 := ⟨_, rfl⟩
              obtain ⟨s2, hs2⟩ : ∃ s2, addS (addS nx T) qo = s2 := ⟨_, rfl⟩
              have hsq : (s2 - n2) % 4294967296 = (s1 - n1) % 4294967296 := by rw [← hs1, ← hs2]; exact sub_moved2 HT.out
              rw [hs1] at hc1
              rw [hs2] at hc3
              obtain ⟨dl, hdl⟩ : ∃ dl, qd.length = dl := ⟨_, rfl⟩
              rw [hdl] at hc2 hb1 hc4 hb2
              have K1 := Lib.hid (old_cell hc1)
              have K2 := Lib.hid (old_cell hc2)
              have K3 := Lib.hid (old_cell hc3)
              have K4 := Lib.hid (old_cell hc4)
              have HV1 := Lib.hid (conv_bytes hb1)
              have HV2 := Lib.hid (conv_bytes hb2)
              have HX1 := Lib.hid (F6.out.at (i := 2) rfl)
              have HX2 := Lib.hid (F6.out.at (i := 1) rfl)
              clear hq hel1 hel2 hp1 hp2 hc1 hc2 hb1 hc3 hc4 hb2 hs1 hs2 hdl
              rename World => wq
              go_upto_region 16 with (fail)
              refine wp_region_quiet_below (by kernel_rfl) (by kernel_rfl) ?_
              (first | go_big_quiet_step (fail) | quiet_step (fail))
              (refine wpQuiet_step (fun K hK => ?_); refine quiet_load_cell (by kernel_rfl) 27 _ rfl ((⟨g1, 0, none⟩ : Addr).add 2) (by first | rfl | (simp [Act.eval, Addr.add_mid])) (.slice (some ad1) na f1) _ (var_cell HX1.out 2 rfl) Try.underlying27 rfl ?_; refine hK _ ?_; clear hK K; go_frame)
              (first | go_big_quiet_step (fail) | quiet_step (fail))
              (first | go_big_quiet_step (fail) | quiet_step (fail))
              (first | go_big_quiet_step (fail) | quiet_step (fail))
              (refine wpQuiet_step (fun K hK => ?_); refine quiet_load_cell (by kernel_rfl) 22 _ rfl (ad1.add (j * 2)) (by first | rfl | (simp [Act.eval, Addr.add_mid])) (.int .u32 s1) _ K1.out Try.underlying22 rfl ?_; refine hK _ ?_; clear hK K; go_frame)
              (first | go_big_quiet_step (fail) | quiet_step (fail))
              (first | go_big_quiet_step (fail) | quiet_step (fail))
              (first | go_big_quiet_step (fail) | quiet_step (fail))
              (refine wpQuiet_step (fun K hK => ?_); refine quiet_load_cell (by kernel_rfl) 27 _ rfl ((⟨g2, 0, none⟩ : Addr).add 2) (by first | rfl | (simp [Act.eval, Addr.add_mid])) (.slice (some ad2) na f2) _ (var_cell HX2.out 2 rfl) Try.underlying27 rfl ?_; refine hK _ ?_; clear hK K; go_frame)
              (first | go_big_quiet_step (fail) | quiet_step (fail))
              (first | go_big_quiet_step (fail) | quiet_step (fail))
              (first | go_big_quiet_step (fail) | quiet_step (fail))
              (refine wpQuiet_step (fun K hK => ?_); refine quiet_load_cell (by kernel_rfl) 22 _ rfl (ad2.add (j * 2)) (by first | rfl | (simp [Act.eval, Addr.add_mid])) (.int .u32 s2) _ K3.out Try.underlying22 rfl ?_; refine hK _ ?_; clear hK K; go_frame)
              (first | go_big_quiet_step (fail) | quiet_step (fail))
              (first | go_big_quiet_step (fail) | quiet_step (fail))
              (first | go_big_quiet_step (fail) | quiet_step (fail))
              (first | go_big_quiet_step (fail) | quiet_step (fail))
              (first | go_big_quiet_step (fail) | quiet_step (fail))
              (refine wpQuiet_step (fun K hK => ?_); refine quiet_load_cell (by kernel_rfl) 27 _ rfl ((⟨g1, 0, none⟩ : Addr).add 2) (by first | rfl | (simp [Act.eval, Addr.add_mid])) (.slice (some ad1) na f1) _ (var_cell HX1.out 2 rfl) Try.underlying27 rfl ?_; refine hK _ ?_; clear hK K; go_frame)
              (first | go_big_quiet_step (fail) | quiet_step (fail))
              (first | go_big_quiet_step (fail) | quiet_step (fail))
              (first | go_big_quiet_step (fail) | quiet_step (fail))
              (refine wpQuiet_step (fun K hK => ?_); refine quiet_load_cell (by kernel_rfl) 26 _ rfl ((ad1.add (j * 2)).add 1) (by first | rfl | (simp [Act.eval, Addr.add_mid])) (.slice B1 dl b1) _ K2.out Try.underlying26 rfl ?_; refine hK _ ?_; clear hK K; go_frame)
              (refine wpQuiet_step (fun K hK => ?_); refine quiet_conv (by kernel_rfl) 26 9 _ rfl (.slice B1 dl b1) (.string ⟨qd.toArray⟩) rfl (fun w9 hr9 => HV1.out w9 (reg_below hr9)) ?_; refine hK _ ?_; clear hK K; go_frame)
              (first | go_big_quiet_step (fail) | quiet_step (fail))
              (refine wpQuiet_step (fun K hK => ?_); refine quiet_load_cell (by kernel_rfl) 27 _ rfl ((⟨g2, 0, none⟩ : Addr).add 2) (by first | rfl | (simp [Act.eval, Addr.add_mid])) (.slice (some ad2) na f2) _ (var_cell HX2.out 2 rfl) Try.underlying27 rfl ?_; refine hK _ ?_; clear hK K; go_frame)
              (first | go_big_quiet_step (fail) | quiet_step (fail))
              (first | go_big_quiet_step (fail) | quiet_step (fail))
              (first | go_big_quiet_step (fail) | quiet_step (fail))
              (refine wpQuiet_step (fun K hK => ?_); refine quiet_load_cell (by kernel_rfl) 26 _ rfl ((ad2.add (j * 2)).add 1) (by first | rfl | (simp [Act.eval, Addr.add_mid])) (.slice B2 dl b2) _ K4.out Try.underlying26 rfl ?_; refine hK _ ?_; clear hK K; go_frame)
              (refine wpQuiet_step (fun K hK => ?_); refine quiet_conv (by kernel_rfl) 26 9 _ rfl (.slice B2 dl b2) (.string ⟨qd.toArray⟩) rfl (fun w9 hr9 => HV2.out w9 (reg_below hr9)) ?_; refine hK _ ?_; clear hK K; go_frame)
              (first | go_big_quiet_step (fail) | quiet_step (fail))
              (first | go_big_quiet_step (fail) | quiet_step (fail))
              refine wpQuiet_nil ?_
              intro w9 hw9
              obtain ⟨⟨dq, osq⟩, rfl⟩ := hw9
              have HB9 := Lib.hid ((Below.refl wq.heap.size wq).trans ((below_regrown wq dq osq).mono (Below.refl wq.heap.size wq).size))
              generalize Sort.grow (redrawn wq dq) osq = w9z at *
              have F7 := Lib.hid (F6.out.call HB9.out)
              clear F6 HB9 K1 K2 K3 K4 HV1 HV2 HX1 HX2 hsq
              go_wp2
              go_roundw
              case rel => exact ⟨j + 1, by omega, by go_num, F7⟩
              case measure => simp [intOf]; omega
            · obtain rfl : j = na := by omega
              have F7 : Hid (Frm w wr [(g2, (rqC (conc (mvX T y)) (.slice D2 md e2) (.slice P2 j f2)), 29), (g1, (rqC (conc y) (.slice D1 md e1) (.slice P1 j f1)), 29)] [((rqC (conc (mvX T y)) (.slice D2 md e2) (.slice P2 j f2)).toList, rqD (conc (mvX T y))), ((rqC (conc y) (.slice D1 md e1) (.slice P1 j f1)).toList, rqD (conc y))]) := Lib.hid (F6.out.drop 1 rfl (fun _ h => h))
              clear F6
              go_wp2
              go_roundw
              case rel => exact ⟨i + 1, y, .slice D1 md e1, .slice P1 j f1, .slice D2 md e2, .slice P2 j f2, by omega, by go_num, HOY, F7⟩
              case measure => simp [intOf]; omega
        · have hsf2 := hsf rfl
          clear hsf
          go_upto_region 13 with (fail)
          go_wp2
          clear hv1 hv2 x0 x1 x2 x3 x4 x5 z0 z1 z2 z3 z4 z5 hsn hsf2
          go_loopw [130] (fun t130 wr => ∃ j : Nat, j ≤ na ∧ t130 = .int .i64 (j : Int) ∧ Hid (Frm w wr [(go, #[.int .i64 off, .slice B k eb, .bool fe, .int .i64 rd], 36), (g2, (rqC (conc (mvX T y)) (.slice D2 md e2) (.slice P2 na f2)), 29), (g1, (rqC (conc y) (.slice D1 md e1) (.slice P1 na f1)), 29)] [((rqC (conc (mvX T y)) (.slice D2 md e2) (.slice P2 na f2)).toList, rqD (conc (mvX T y))), ((rqC (conc y) (.slice D1 md e1) (.slice P1 na f1)).toList, rqD (conc y))])) (fun t130 _ => na - (intOf t130).toNat)
          case atStart => exact ⟨0, Nat.zero_le _, rfl, F5⟩
          case round =>
            clear F5
            obtain ⟨j, hj, rfl, F6⟩ := hrel
            by_cases hjl : j < na
            · obtain ⟨q, hq⟩ : ∃ q, (runsL 0 y.got)[j]? = some q := ⟨_, List.getElem?_eq_getElem (by rw [HNR.out]; exact hjl)⟩
              obtain ⟨A1', c1', e9, -, -, -, hel1⟩ := pc_elem (rq_ahead (F6.out.val (i := 1) rfl))
              obtain ⟨ad1, B1, b1, hp1, -, hc1, hc2, hb1⟩ := hel1 j ⟨addS y.next q.1, q.2⟩ (by show ((runsL 0 y.got).map _)[j]? = _; rw [List.getElem?_map, hq]; rfl)
              injection e9 with e9 _ _
              rw [hp1] at e9
              subst e9
              obtain ⟨A2', c2', e8, -, -, -, hel2⟩ := pc_elem (rq_ahead (F6.out.val (i := 0) rfl))
              obtain ⟨ad2, B2, b2, hp2, -, hc3, hc4, hb2⟩ := hel2 j ⟨addS (addS y.next T) q.1, q.2⟩ (by show ((runsL 0 y.got).map _)[j]? = _; rw [List.getElem?_map, hq]; rfl)
              injection e8 with e8 _ _
              rw [hp2] at e8
              subst e8
              obtain ⟨qo, qd⟩ := q
              dsimp only at hc1 hc2 hb1 hc3 hc4 hb2
              rw [HNX.out] at hc1 hc3
              obtain ⟨s1, hs1⟩ : ∃ s1, addS nx qo = s1 := ⟨_, rfl⟩
              obtain ⟨s2, hs2⟩ : ∃ s2, addS (addS nx T) qo = s2 := ⟨_, rfl⟩
              have hsq : (s2 - n2) % 4294967296 = (s1 - n1) % 4294967296 := by rw [← hs1, ← hs2]; exact sub_moved2 HT.out
              rw [hs1] at hc1
              rw [hs2] at hc3
              obtain ⟨dl, hdl⟩ : ∃ dl, qd.length = dl := ⟨_, rfl⟩
              rw [hdl] at hc2 hb1 hc4 hb2
              have K1 := Lib.hid (old_cell hc1)
              have K2 := Lib.hid (old_cell hc2)
              have K3 := Lib.hid (old_cell hc3)
              have K4 := Lib.hid (old_cell hc4)
              have HV1 := Lib.hid (conv_bytes hb1)
              have HV2 := Lib.hid (conv_bytes hb2)
              have HX1 := Lib.hid (F6.out.at (i := 2) rfl)
              have HX2 := Lib.hid (F6.out.at (i := 1) rfl)
              clear hq hel1 hel2 hp1 hp2 hc1 hc2 hb1 hc3 hc4 hb2 hs1 hs2 hdl
              rename World => wq
              go_upto_region 16 with (fail)
              refine wp_region_quiet_below (by kernel_rfl) (by kernel_rfl) ?_
              (first | go_big_quiet_step (fail) | quiet_step (fail))
              (refine wpQuiet_step (fun K hK => ?_); refine quiet_load_cell (by kernel_rfl) 27 _ rfl ((⟨g1, 0, none⟩ : Addr).add 2) (by first | rfl | (simp [Act.eval, Addr.add_mid])) (.slice (some ad1) na f1) _ (var_cell HX1.out 2 rfl) Try.underlying27 rfl ?_; refine hK _ ?_; clear hK K; go_frame)
              (first | go_big_quiet_step (fail) | quiet_step (fail))
              (first | go_big_quiet_step (fail) | quiet_step (fail))
              (first | go_big_quiet_step (fail) | quiet_step (fail))
              (refine wpQuiet_step (fun K hK => ?_); refine quiet_load_cell (by kernel_rfl) 22 _ rfl (ad1.add (j * 2)) (by first | rfl | (simp [Act.eval, Addr.add_mid])) (.int .u32 s1) _ K1.out Try.underlying22 rfl ?_; refine hK _ ?_; clear hK K; go_frame)
              (first | go_big_quiet_step (fail) | quiet_step (fail))
              (first | go_big_quiet_step (fail) | quiet_step (fail))
              (first | go_big_quiet_step (fail) | quiet_step (fail))
              (refine wpQuiet_step (fun K hK => ?_); refine quiet_load_cell (by kernel_rfl) 27 _ rfl ((⟨g2, 0, none⟩ : Addr).add 2) (by first | rfl | (simp [Act.eval, Addr.add_mid])) (.slice (some ad2) na f2) _ (var_cell HX2.out 2 rfl) Try.underlying27 rfl ?_; refine hK _ ?_; clear hK K; go_frame)
              (first | go_big_quiet_step (fail) | quiet_step (fail))
              (first | go_big_quiet_step (fail) | quiet_step (fail))
              (first | go_big_quiet_step (fail) | quiet_step (fail))
              (refine wpQuiet_step (fun K hK => ?_); refine quiet_load_cell (by kernel_rfl) 22 _ rfl (ad2.add (j * 2)) (by first | rfl | (simp [Act.eval, Addr.add_mid])) (.int .u32 s2) _ K3.out Try.underlying22 rfl ?_; refine hK _ ?_; clear hK K; go_frame)
              (first | go_big_quiet_step (fail) | quiet_step (fail))
              (first | go_big_quiet_step (fail) | quiet_step (fail))
              (first | go_big_quiet_step (fail) | quiet_step (fail))
              (first | go_big_quiet_step (fail) | quiet_step (fail))
              (first | go_big_quiet_step (fail) | quiet_step (fail))
              (refine wpQuiet_step (fun K hK => ?_); refine quiet_load_cell (by kernel_rfl) 27 _ rfl ((⟨g1, 0, none⟩ : Addr).add 2) (by first | rfl | (simp [Act.eval, Addr.add_mid])) (.slice (some ad1) na f1) _ (var_cell HX1.out 2 rfl) Try.underlying27 rfl ?_; refine hK _ ?_; clear hK K; go_frame)
              (first | go_big_quiet_step (fail) | quiet_step (fail))
              (first | go_big_quiet_step (fail) | quiet_step (fail))
              (first | go_big_quiet_step (fail) | quiet_step (fail))
              (refine wpQuiet_step (fun K hK => ?_); refine quiet_load_cell (by kernel_rfl) 26 _ rfl ((ad1.add (j * 2)).add 1) (by first | rfl | (simp [Act.eval, Addr.add_mid])) (.slice B1 dl b1) _ K2.out Try.underlying26 rfl ?_; refine hK _ ?_; clear hK K; go_frame)
              (refine wpQuiet_step (fun K hK => ?_); refine quiet_conv (by kernel_rfl) 26 9 _ rfl (.slice B1 dl b1) (.string ⟨qd.toArray⟩) rfl (fun w9 hr9 => HV1.out w9 (reg_below hr9)) ?_; refine hK _ ?_; clear hK K; go_frame)
              (first | go_big_quiet_step (fail) | quiet_step (fail))
              (refine wpQuiet_step (fun K hK => ?_); refine quiet_load_cell (by kernel_rfl) 27 _ rfl ((⟨g2, 0, none⟩ : Addr).add 2) (by first | rfl | (simp [Act.eval, Addr.add_mid])) (.slice (some ad2) na f2) _ (var_cell HX2.out 2 rfl) Try.underlying27 rfl ?_; refine hK _ ?_; clear hK K; go_frame)
              (first | go_big_quiet_step (fail) | quiet_step (fail))
              (first | go_big_quiet_step (fail) | quiet_step (fail))
              (first | go_big_quiet_step (fail) | quiet_step (fail))
              (refine wpQuiet_step (fun K hK => ?_); refine quiet_load_cell (by kernel_rfl) 26 _ rfl ((ad2.add (j * 2)).add 1) (by first | rfl | (simp [Act.eval, Addr.add_mid])) (.slice B2 dl b2) _ K4.out Try.underlying26 rfl ?_; refine hK _ ?_; clear hK K; go_frame)
              (refine wpQuiet_step (fun K hK => ?_); refine quiet_conv (by kernel_rfl) 26 9 _ rfl (.slice B2 dl b2) (.string ⟨qd.toArray⟩) rfl (fun w9 hr9 => HV2.out w9 (reg_below hr9)) ?_; refine hK _ ?_; clear hK K; go_frame)
              (first | go_big_quiet_step (fail) | quiet_step (fail))
              (first | go_big_quiet_step (fail) | quiet_step (fail))
              refine wpQuiet_nil ?_
              intro w9 hw9
              obtain ⟨⟨dq, osq⟩, rfl⟩ := hw9
              have HB9 := Lib.hid ((Below.refl wq.heap.size wq).trans ((below_regrown wq dq osq).mono (Below.refl wq.heap.size wq).size))
              generalize Sort.grow (redrawn wq dq) osq = w9z at *
              have F7 := Lib.hid (F6.out.call HB9.out)
              clear F6 HB9 K1 K2 K3 K4 HV1 HV2 HX1 HX2 hsq
              go_wp2
              go_roundw
              case rel => exact ⟨j + 1, by omega, by go_num, F7⟩
              case measure => simp [intOf]; omega
            · obtain rfl : j = na := by omega
              have F7 : Hid (Frm w wr [(g2, (rqC (conc (mvX T y)) (.slice D2 md e2) (.slice P2 j f2)), 29), (g1, (rqC (conc y) (.slice D1 md e1) (.slice P1 j f1)), 29)] [((rqC (conc (mvX T y)) (.slice D2 md e2) (.slice P2 j f2)).toList, rqD (conc (mvX T y))), ((rqC (conc y) (.slice D1 md e1) (.slice P1 j f1)).toList, rqD (conc y))]) := Lib.hid (F6.out.drop 1 rfl (fun _ h => h))
              clear F6
              go_wp2
              go_roundw
              case rel => exact ⟨i + 1, y, .slice D1 md e1, .slice P1 j f1, .slice D2 md e2, .slice P2 j f2, by omega, by go_num, HOY, F7⟩
              case measure => simp [intOf]; omega
    · obtain rfl : i = m := by omega
      have HBE := Lib.hid F1.out.below
      clear F1
      go_wp2
      go_ret
      exact ⟨rfl, HBE.out⟩
end Go.Proofs.Ytdgfhcojmfgimaa
