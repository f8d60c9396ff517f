/-
  The law HeapBack: every slice of ops, every int and every slice of bytes. No condition.
-/
import Derived.Test.YtbgfllndcddnbaaZeroL
import Derived.Test.YtbgfllndcddnbaaLooksL
namespace Go.Proofs.Ytbgfllndcddnbaa
open Go.RowKit

set_option maxRecDepth 100000 in
set_option maxHeartbeats 1000000 in
theorem back_any (A : Option Addr) (n c : Nat) (x : Int) (Ad : Option Addr) (m cd : Nat) (l : List Opp) (d : List UInt8) (w : World) (h : OpsT w w.heap.size A l) (hl : l.length = n) (hn : n ≤ 140737488351232) (hx : I64 x) (hd : d.length = m) (hm : m ≤ 140737488351232) (hAd : Ad = none → cd = 0) (hrd : Rd w 0 w.heap.size Ad (cells d)) :
    Calls Try.prog 7 #[.slice A n c, .int .i64 x, .slice Ad m cd] w fun e w' => e = .returned (.bool true) ∧ Below w.heap.size w w' := by
  have HOPS := Lib.hid h
  have HLN := Lib.hid hl
  have HDM0 := Lib.hid hd
  have HAD := Lib.hid hAd
  have HRDD := Lib.hid hrd
  have HIX := Lib.hid hx
  have HFT := Lib.hid (fun w' (hb : Below w.heap.size w w') => fits_any A n c w.heap.size l w' (h.below hb (Nat.le_refl _)) hb.size hl hn)
  clear h hl hx hd hAd hrd
  go_enter Try.func7, Try.ntmps7
  go_wp2_with fail
  refine (lives_any _).mono ?_
  rintro e w1 ⟨rfl, hb1⟩
  have HB1 := Lib.hid hb1
  clear hb1
  go_wp2_with fail
  refine (HFT.out _ HB1.out).mono ?_
  rintro e w2 ⟨rfl, hb2⟩
  have HB2 := Lib.hid (HB1.out.trans (hb2.mono HB1.out.size))
  clear hb2
  cases hft : fitsB l
  · clear hft
    go_wp2_with fail
    refine (lives_any _).mono ?_
    rintro e w3 ⟨rfl, hb3⟩
    have HB3 := Lib.hid (HB2.out.trans (hb3.mono HB2.out.size))
    clear hb3
    go_wp2
    go_ret
    exact ⟨rfl, HB3.out⟩
  · by_cases hm1 : 100 < m
    · have hm2 : (100 : Int) < (m : Int) := by omega
      clear hft
      go_wp2_with fail
      refine (lives_any _).mono ?_
      rintro e w3 ⟨rfl, hb3⟩
      have HB3 := Lib.hid (HB2.out.trans (hb3.mono HB2.out.size))
      clear hb3
      go_wp2
      go_ret
      exact ⟨rfl, HB3.out⟩
    have hm2 : (m : Int) ≤ 100 := by omega
    have hfl : n ≤ 60 ∧ ∀ o ∈ l, o.data.length ≤ 300 := by
      unfold fitsB at hft
      simp only [Bool.and_eq_true, List.all_eq_true, decide_eq_true_eq] at hft
      exact ⟨by rw [← HLN.out]; exact hft.2, hft.1⟩
    have hn60 := hfl.1
    have HDAT := Lib.hid hfl.2
    clear hft hfl hn
    go_wp2_with fail
    refine (new_any 4 w2 (by decide) (by decide)).mono ?_
    rintro e w3 ⟨v, rfl, ⟨y1, y2, y3, rfl, hp⟩, hb3⟩
    have HO3 := Lib.hid hp.ones
    have HV3 := Lib.hid (var_new hp)
    have HB3 : Hid (Below w.heap.size w (w3.alloc (.cells #[y1, y2, y3] 29))) := (HB2.out.trans (hb3.mono HB2.out.size)).alloc (by have := HB2.out.size; have := hb3.size; omega) _
    have HNW : Hid (w.heap.size ≤ w3.heap.size) := Nat.le_trans HB2.out.size hb3.size
    clear hp hb3
    go_upto_region 4 with (refine wpList_store_new rfl 29 _ _ rfl w3 #[.slice none 0 0, .slice none 0 0, .slice none 0 0] #[y1, y2, y3] rfl rfl (by kernel_rfl) rfl HO3.out ?_)
    generalize w3.alloc (.cells #[y1, y2, y3] 29) = w4 at HV3 HB3 ⊢
    generalize w3.heap.size = N at HV3 HNW ⊢
    have HR3 : Hid (RightH (List.replicate (64 * 4) 0) [] (List.replicate 4 false)) := RightH.new (by decide) (by decide)
    have HZ3 : Hid (ZeroOut (List.replicate (64 * 4) 0) []) := ZeroOut.new _
    go_wp2
    go_loopw [41] (fun t41 wr => ∃ (k : Nat) (B : List UInt8) (L : List Bk) (D : List Bool), k ≤ n ∧ t41 = .int .i64 (k : Int) ∧ Hid (VarH N B L D wr) ∧ Hid (RightH B L D) ∧ Hid (Below w.heap.size w wr) ∧ Hid (ZeroOut B L)) (fun t41 _ => n - (intOf t41).toNat)
    case atStart => exact ⟨0, _, _, _, Nat.zero_le _, rfl, HV3, HR3, HB3, HZ3⟩
    case round =>
      obtain ⟨k, B, L, D, hk, rfl, HVAR, HR, HBEL, HZO⟩ := hrel
      by_cases hlt : k < n
      · obtain ⟨o, ho⟩ : ∃ o, l[k]? = some o := ⟨_, List.getElem?_eq_getElem (by rw [HLN.out]; exact hlt)⟩
        obtain ⟨ad, A', cc, rfl, -, hcs, hrd, hAn, hdc, hcc, hik, hia, hin⟩ := (HOPS.out k o ho).below HBEL.out (Nat.le_refl _)
        have HEL := Lib.hid hcs
        have HRD := Lib.hid hrd
        have HIA := Lib.hid hia
        have HIN := Lib.hid hin
        have HAN := Lib.hid hAn
        have HDL : Hid (o.data.length ≤ 300) := HDAT.out o (List.mem_of_getElem? ho)
        obtain ⟨dm, hdm⟩ : ∃ dm, o.data.length = dm := ⟨_, rfl⟩
        rw [hdm] at HEL HDL
        have HDM := Lib.hid hdm
        obtain ⟨v1, v2, v3, hx, hp⟩ := HVAR.out
        obtain ⟨A1, c1, A2, c2, A3, c3, rfl, rfl, rfl⟩ := hp.forms
        obtain ⟨nb, hnb⟩ : ∃ k, B.length = k := ⟨_, rfl⟩
        obtain ⟨nk, hnk⟩ : ∃ k, L.length = k := ⟨_, rfl⟩
        obtain ⟨nd, hnd⟩ : ∃ k, D.length = k := ⟨_, rfl⟩
        rw [hnb, hnk, hnd] at hx hp
        have HX := Lib.hid (old_alloc hx (.cells #[.int .i64 o.kind, .int .i64 o.at_, .int .i64 o.n, .slice A' dm cc, .bool o.short] 38))
        have HP := Lib.hid (hp.alloc (.cells #[.int .i64 o.kind, .int .i64 o.at_, .int .i64 o.n, .slice A' dm cc, .bool o.short] 38))
        have HY := Lib.hid (heap_alloc_new wr (.cells #[.int .i64 o.kind, .int .i64 o.at_, .int .i64 o.n, .slice A' dm cc, .bool o.short] 38))
        have HB2 := Lib.hid (HBEL.out.alloc HBEL.out.size (.cells #[.int .i64 o.kind, .int .i64 o.at_, .int .i64 o.n, .slice A' dm cc, .bool o.short] 38))
        have HRD2 := Lib.hid (hrd.alloc HBEL.out.size (.cells #[.int .i64 o.kind, .int .i64 o.at_, .int .i64 o.n, .slice A' dm cc, .bool o.short] 38))
        have hNlt := row_lt hx
        have HNL : Hid (w.heap.size ≤ N) := HNW.out
        unfold opC at HEL
        have hr4 : (IntKind.u64.wrap o.kind).tmod 3 = 0 ∨ (IntKind.u64.wrap o.kind).tmod 3 = 1 ∨ (IntKind.u64.wrap o.kind).tmod 3 = 2 := by
          obtain ⟨r, hr, hr4⟩ := u64_rem o.kind 3 (by decide) (by decide)
          change (IntKind.u64.wrap o.kind).tmod 3 = (r : Int) at hr
          omega
        have HIK := Lib.hid hik
        clear hcs hrd hAn hdc hcc hia hin hx hp hnb hnk hnd ho hdm hik
        go_upto_region 9 with (first | refine wpList_load_at rfl 38 _ rfl (ad.add (k * 5)) rfl [.int .i64 o.kind, .int .i64 o.at_, .int .i64 o.n, .slice A' dm cc, .bool o.short] _ HEL.out Try.underlying38 rfl (by kernel_rfl) ?_)
        generalize wr.alloc (.cells #[.int .i64 o.kind, .int .i64 o.at_, .int .i64 o.n, .slice A' dm cc, .bool o.short] 38) = w5 at HX HY HB2 HP HRD2 ⊢
        generalize wr.heap.size = b5 at HY hNlt ⊢
        obtain ⟨f0, f1, f2, f3, f4⟩ := five_cells HY.out
        rcases hr4 with hr | hr | hr
        · go_wp2_with (refine wpList_load_row rfl 29 _ rfl N rfl 29 #[.slice A1 nb c1, .slice A2 nk c2, .slice A3 nd c3] (0, 0) _ HX.out Try.underlying29 rfl (by kernel_rfl) ?_)
          refine (alloc_any o.n w5 ⟨_, _, _, rfl, HP.out⟩ HR.out HIN.out).mono ?_
          rintro e w6 ⟨v', rfl, ⟨z1, z2, z3, rfl, hp6⟩, hb6⟩
          have hx6 := old_below HX.out hb6 (row_lt HX.out)
          have HXX := Lib.hid hx6
          have HO6 := Lib.hid hp6.ones
          have HV6 := Lib.hid (var_set hp6 hx6)
          have HB6 : Hid (Below w.heap.size w (w6.setRow N #[z1, z2, z3])) := below_setRow (HB2.out.trans (hb6.mono HB2.out.size)) HNL.out _
          have HR6 := Lib.hid (HR.out.alloc o.n)
          clear hp6 hx6 hb6 f0 f1 f2 f3 f4
          go_wp2_with (refine wpList_store_row rfl 29 _ _ rfl N #[z1, z2, z3] rfl rfl 29 _ HXX.out (by kernel_rfl) rfl HO6.out ?_)
          go_roundw
          case rel => exact ⟨k + 1, _, _, _, by omega, by go_num, HV6, HR6, HB6, Lib.hid (HZO.out.alloc o.n)⟩
          case measure => simp [intOf]; omega
        · go_wp2_with (refine wpList_load_row rfl 29 _ rfl N rfl 29 #[.slice A1 nb c1, .slice A2 nk c2, .slice A3 nd c3] (0, 0) _ HX.out Try.underlying29 rfl (by kernel_rfl) ?_)
          refine (store_any o.at_ A' cc dm 0 w.heap.size o.data w5 ⟨_, _, _, rfl, HP.out⟩ HR.out HIA.out HDM.out (by have := HDL.out; omega) HAN.out HRD2.out (Nat.le_trans HB2.out.size (Nat.le_refl _))).mono ?_
          rintro e w6 ⟨v', rfl, ⟨z1, z2, z3, rfl, hp6⟩, hb6⟩
          have hx6 := old_below HX.out hb6 (row_lt HX.out)
          have HXX := Lib.hid hx6
          have HO6 := Lib.hid hp6.ones
          have HV6 := Lib.hid (var_set hp6 hx6)
          have HB6 : Hid (Below w.heap.size w (w6.setRow N #[z1, z2, z3])) := below_setRow (HB2.out.trans (hb6.mono HB2.out.size)) HNL.out _
          have HR6 := Lib.hid (HR.out.store o.at_ o.data)
          clear hp6 hx6 hb6 f0 f1 f2 f3 f4
          go_wp2_with (refine wpList_store_row rfl 29 _ _ rfl N #[z1, z2, z3] rfl rfl 29 _ HXX.out (by kernel_rfl) rfl HO6.out ?_)
          go_roundw
          case rel => exact ⟨k + 1, _, _, _, by omega, by go_num, HV6, HR6, HB6, Lib.hid (HZO.out.store HR.out o.at_ o.data)⟩
          case measure => simp [intOf]; omega
        · go_wp2_with (refine wpList_load_row rfl 29 _ rfl N rfl 29 #[.slice A1 nb c1, .slice A2 nk c2, .slice A3 nd c3] (0, 0) _ HX.out Try.underlying29 rfl (by kernel_rfl) ?_)
          refine (free_any o.at_ w5 ⟨_, _, _, rfl, HP.out⟩ HR.out HIA.out).mono ?_
          rintro e w6 ⟨v', rfl, ⟨z1, z2, z3, rfl, hp6⟩, hb6⟩
          have hx6 := old_below HX.out hb6 (row_lt HX.out)
          have HXX := Lib.hid hx6
          have HO6 := Lib.hid hp6.ones
          have HV6 := Lib.hid (var_set hp6 hx6)
          have HB6 : Hid (Below w.heap.size w (w6.setRow N #[z1, z2, z3])) := below_setRow (HB2.out.trans (hb6.mono HB2.out.size)) HNL.out _
          have HR6 := Lib.hid (HR.out.free o.at_)
          clear hp6 hx6 hb6 f0 f1 f2 f3 f4
          go_wp2_with (refine wpList_store_row rfl 29 _ _ rfl N #[z1, z2, z3] rfl rfl 29 _ HXX.out (by kernel_rfl) rfl HO6.out ?_)
          go_roundw
          case rel => exact ⟨k + 1, _, _, _, by omega, by go_num, HV6, HR6, HB6, Lib.hid (HZO.out.free HR.out o.at_)⟩
          case measure => simp [intOf]; omega
      · obtain rfl : k = n := by omega
        obtain ⟨v1, v2, v3, hx, hp⟩ := HVAR.out
        obtain ⟨A1, c1, A2, c2, A3, c3, rfl, rfl, rfl⟩ := hp.forms
        obtain ⟨nb, hnb⟩ : ∃ k, B.length = k := ⟨_, rfl⟩
        obtain ⟨nk, hnk⟩ : ∃ k, L.length = k := ⟨_, rfl⟩
        obtain ⟨nd, hnd⟩ : ∃ k, D.length = k := ⟨_, rfl⟩
        rw [hnb, hnk, hnd] at hx hp
        have HX := Lib.hid hx
        have HP := Lib.hid hp
        have HNB := Lib.hid hnb
        have HNK := Lib.hid hnk
        have HND := Lib.hid hnd
        have hnk1 : nk ≤ 4096 := by have := HR.out.many; omega
        obtain ⟨r, hr, hr1⟩ := u64_rem x 100 (by decide) (by decide)
        change (IntKind.u64.wrap x).tmod 100 = (r : Int) at hr
        have hrw : IntKind.i64.wrap ((IntKind.u64.wrap x).tmod 100) = (r : Int) := by rw [hr]; exact IntWalk.i64_in _ ⟨by omega, by omega⟩
        clear hx hp hnb hnk hnd HOPS HDAT HFT HB1 HB2 HB3 HV3 HR3 HO3 HZ3
        go_upto_region 16 with (fail)
        go_cut [11] (fun t11 wx => ∃ s : Int, t11 = .int .i64 s ∧ 1 ≤ s ∧ s ≤ 100 ∧ (m : Int) ≤ s ∧ wr = wx)
        case first =>
          rcases Nat.lt_trichotomy (1 + r) m with hq | hq | hq
          · have hq' : (1 : Int) + (r : Int) < (m : Int) := by omega
            go_wp2
            go_meet
            case rel => exact ⟨_, rfl, by omega, by omega, by omega, rfl⟩
          · have hq' : (1 : Int) + (r : Int) = (m : Int) := by omega
            go_wp2
            go_meet
            case rel => exact ⟨_, rfl, by omega, by omega, by omega, rfl⟩
          · have hq' : (m : Int) < (1 : Int) + (r : Int) := by omega
            go_wp2
            go_meet
            case rel => exact ⟨_, rfl, by omega, by omega, by omega, rfl⟩
        case rest =>
        obtain ⟨s, rfl, hs1, hs2, hs3, rfl⟩ := hcut
        obtain ⟨Lm, a, er, hA⟩ : ∃ M a er, allocO B.length L s = (M, a, er) := ⟨_, _, _, rfl⟩
        have HAL := alloc_any s wr ⟨_, _, _, rfl, HP.out⟩ HR.out ⟨by omega, by omega⟩
        have HRM := Lib.hid (HR.out.alloc s)
        have hbm := back_math HR.out HZO.out s d hs1 (by rw [HDM0.out]; exact hs3) hA
        rw [hA] at HAL HRM
        have HAL := Lib.hid HAL
        have HAI : Hid (I64 (a : Int)) := by
          show I64 _
          have := HR.out.bytes
          have h0 : a ≤ B.length := alloc_le hA HR.out.blk
          exact ⟨by omega, by omega⟩
        clear hA
        go_wp2_with (refine wpList_load_row rfl 29 _ rfl N rfl 29 #[.slice A1 nb c1, .slice A2 nk c2, .slice A3 nd c3] (0, 0) _ HX.out Try.underlying29 rfl (by kernel_rfl) ?_)
        refine HAL.out.mono ?_
        rintro e w6 ⟨v', rfl, ⟨z1, z2, z3, rfl, hp6⟩, hb6⟩
        have HO6 := Lib.hid hp6.ones
        have hb7 : Below wr.heap.size wr (w6.alloc (.cells #[z1, z2, z3] 29)) := hb6.alloc hb6.size _
        have HX7 := Lib.hid (old_below HX.out hb7 (row_lt HX.out))
        have HP7 := Lib.hid (HP.out.below hb7)
        have HW7 := Lib.hid (heap_alloc_new w6 (.cells #[z1, z2, z3] 29))
        have HQ7 := Lib.hid ((hp6.wide (Nat.zero_le _)).alloc (.cells #[z1, z2, z3] 29))
        have HB7 := Lib.hid (HBEL.out.trans (hb7.mono HBEL.out.size))
        clear hp6 hb6 hb7 HAL
        go_upto_region 18 with (first | refine wpList_store_new rfl 29 _ _ rfl w6 #[.slice none 0 0, .slice none 0 0, .slice none 0 0] #[z1, z2, z3] rfl rfl (by kernel_rfl) rfl HO6.out ?_)
        generalize w6.alloc (.cells #[z1, z2, z3] 29) = w7 at HX7 HP7 HW7 HQ7 HB7 ⊢
        generalize w6.heap.size = P at HW7 ⊢
        rcases hbm with ⟨he, hL⟩ | ⟨he, D1, B1, hS, D2, hF⟩
        · subst he hL
          obtain ⟨A4, c4, A5, c5, A6, c6, rfl, rfl, rfl⟩ := HQ7.out.formsN HNB.out HNK.out HND.out
          have hs1 : (convert 25 9 (.slice A1 nb c1)).run Try.prog w7 = .ok (.string ⟨B.toArray⟩) w7 := by
            have := run_text (P := Try.prog) w7 25 9 5 (l := B) c1 Try.underlying25 Try.underlying5 Try.underlying9 (ownk_rd (by have := HP7.out.1; rwa [HNB.out] at this))
            rwa [HNB.out] at this
          have hs2 : (convert 25 9 (.slice A4 nb c4)).run Try.prog w7 = .ok (.string ⟨B.toArray⟩) w7 := by
            have := run_text (P := Try.prog) w7 25 9 5 (l := B) c4 Try.underlying25 Try.underlying5 Try.underlying9 (ownk_rd (by have := HQ7.out.1; rwa [HNB.out] at this))
            rwa [HNB.out] at this
          obtain ⟨q0, q1, q2⟩ := three_cells HX7.out
          obtain ⟨s0, s1, s2⟩ := three_cells HW7.out
          go_wp2
          go_ret
          exact ⟨rfl, HB7.out⟩
        · subst he
          have HST := store_any (a : Int) Ad cd m 0 w.heap.size d w7 ⟨_, _, _, rfl, HQ7.out⟩ HRM.out HAI.out HDM0.out (by omega) HAD.out (HRDD.out.below HB7.out (Nat.le_refl _)) HB7.out.size
          have HRS := Lib.hid (HRM.out.store (a : Int) d)
          rw [hS] at HST HRS
          have HST := Lib.hid HST
          have HF := Lib.hid hF
          clear hS hF
          go_wp2_with (refine wpList_load_row rfl 29 _ rfl P rfl 29 #[z1, z2, z3] (0, 0) _ HW7.out Try.underlying29 rfl (by kernel_rfl) ?_)
          refine HST.out.mono ?_
          rintro e w8 ⟨v', rfl, ⟨u1, u2, u3, rfl, hp8⟩, hb8⟩
          have HO8 := Lib.hid hp8.ones
          have hb9 : Below w7.heap.size w7 (w8.alloc (.cells #[u1, u2, u3] 29)) := hb8.alloc hb8.size _
          have HX9 := Lib.hid (old_below HX7.out hb9 (row_lt HX7.out))
          have HP9 := Lib.hid (HP7.out.below hb9)
          have HW9 := Lib.hid (old_below HW7.out hb9 (row_lt HW7.out))
          have HQ9 := Lib.hid (HQ7.out.below hb9)
          have HY9 := Lib.hid (heap_alloc_new w8 (.cells #[u1, u2, u3] 29))
          have HU9 := Lib.hid ((hp8.wide (Nat.zero_le _)).alloc (.cells #[u1, u2, u3] 29))
          have HB9 := Lib.hid (HB7.out.trans (hb9.mono HB7.out.size))
          clear hp8 hb8 hb9 HST
          go_upto_region 21 with (first | refine wpList_store_new rfl 29 _ _ rfl w8 #[.slice none 0 0, .slice none 0 0, .slice none 0 0] #[u1, u2, u3] rfl rfl (by kernel_rfl) rfl HO8.out ?_)
          generalize w8.alloc (.cells #[u1, u2, u3] 29) = w9 at HX9 HP9 HW9 HQ9 HY9 HU9 HB9 ⊢
          generalize w8.heap.size = Q at HY9 ⊢
          have HFR := free_any (a : Int) w9 ⟨_, _, _, rfl, HU9.out⟩ HRS.out HAI.out
          have HRF := Lib.hid (HRS.out.free (a : Int))
          rw [HF.out] at HFR HRF
          have HFR := Lib.hid HFR
          clear HX7 HP7 HW7 HQ7
          go_wp2_with (refine wpList_load_row rfl 29 _ rfl Q rfl 29 #[u1, u2, u3] (0, 0) _ HY9.out Try.underlying29 rfl (by kernel_rfl) ?_)
          refine HFR.out.mono ?_
          rintro e wa ⟨v', rfl, ⟨k1, k2, k3, rfl, hpa⟩, hba⟩
          have HOa := Lib.hid hpa.ones
          obtain ⟨A7, c7, A8, c8, A9, c9, rfl, rfl, rfl⟩ := hpa.formsN HNB.out HNK.out rfl
          obtain ⟨nd2, hnd2⟩ : ∃ k, D2.length = k := ⟨_, rfl⟩
          rw [hnd2] at HOa
          have hbb : Below w9.heap.size w9 (wa.alloc (.cells #[.slice A7 nb c7, .slice A8 nk c8, .slice A9 D2.length c9] 29)) := hba.alloc hba.size _
          rw [hnd2] at hbb hpa
          have HXb := Lib.hid (old_below HX9.out hbb (row_lt HX9.out))
          have HPb := Lib.hid (HP9.out.below hbb)
          have HWb := Lib.hid (old_below HW9.out hbb (row_lt HW9.out))
          have HQb := Lib.hid (HQ9.out.below hbb)
          have HYb := Lib.hid (heap_alloc_new wa (.cells #[.slice A7 nb c7, .slice A8 nk c8, .slice A9 nd2 c9] 29))
          have HUb := Lib.hid ((hpa.wide (Nat.zero_le _)).alloc (.cells #[.slice A7 nb c7, .slice A8 nk c8, .slice A9 nd2 c9] 29))
          have HBb := Lib.hid (HB9.out.trans (hbb.mono HB9.out.size))
          clear hpa hba hbb HFR HX9 HP9 HW9 HQ9 HY9 HU9
          rw [hnd2]
          go_upto_region 22 with (first | refine wpList_store_new rfl 29 _ _ rfl wa #[.slice none 0 0, .slice none 0 0, .slice none 0 0] #[.slice A7 nb c7, .slice A8 nk c8, .slice A9 nd2 c9] rfl rfl (by kernel_rfl) rfl HOa.out ?_)
          generalize wa.alloc (.cells #[.slice A7 nb c7, .slice A8 nk c8, .slice A9 nd2 c9] 29) = wb at HXb HPb HWb HQb HYb HUb HBb ⊢
          generalize wa.heap.size = S at HYb ⊢
          obtain ⟨A4, c4, A5, c5, A6, c6, rfl, rfl, rfl⟩ := HQb.out.formsN HNB.out rfl HND.out
          have hs1 : (convert 25 9 (.slice A1 nb c1)).run Try.prog wb = .ok (.string ⟨B.toArray⟩) wb := by
            have := run_text (P := Try.prog) wb 25 9 5 (l := B) c1 Try.underlying25 Try.underlying5 Try.underlying9 (ownk_rd (by have := HPb.out.1; rwa [HNB.out] at this))
            rwa [HNB.out] at this
          have hs2 : (convert 25 9 (.slice A4 nb c4)).run Try.prog wb = .ok (.string ⟨B.toArray⟩) wb := by
            have := run_text (P := Try.prog) wb 25 9 5 (l := B) c4 Try.underlying25 Try.underlying5 Try.underlying9 (ownk_rd (by have := HQb.out.1; rwa [HNB.out] at this))
            rwa [HNB.out] at this
          obtain ⟨q0, q1, q2⟩ := three_cells HXb.out
          obtain ⟨s0, s1, s2⟩ := three_cells HWb.out
          obtain ⟨p0, p1, p2⟩ := three_cells HYb.out
          go_wp2
          clear q0 q1 q2 s0 s1 s2 p0 p1 p2 hs1 hs2
          go_loopw [155] (fun t155 wx => ∃ k2 : Nat, k2 ≤ nk ∧ t155 = .int .i64 (k2 : Int) ∧ Hid (Below wb.heap.size wb wx)) (fun t155 _ => nk - (intOf t155).toNat)
          case atStart => exact ⟨0, Nat.zero_le _, rfl, Lib.hid (Below.refl _ _)⟩
          case round =>
            obtain ⟨k2, hk2, rfl, HBW⟩ := hrel
            by_cases hlt2 : k2 < nk
            · obtain ⟨⟨b1, b2⟩, hbk⟩ : ∃ p, L[k2]? = some p := ⟨_, List.getElem?_eq_getElem (by rw [HNK.out]; exact hlt2)⟩
              obtain ⟨g8, d8, cur8, e8, -⟩ := ownk_some (by have := HUb.out.2.1; rw [HNK.out] at this; exact this) (by omega)
              injection e8 with e8 _ _
              subst e8
              obtain ⟨g2, d2, cur2, e2, -⟩ := ownk_some (by have := HPb.out.2.1; rw [HNK.out] at this; exact this) (by omega)
              injection e2 with e2 _ _
              subst e2
              have hel : ∀ j u, [Value.int .i64 (b1 : Int), .int .i64 (b2 : Int)][j]? = some u → wr.cell? ((⟨g8, k2 * 2, none⟩ : Addr).add j) = some u := bk_cells (ownk_below (by have := HUb.out.2.1; rw [HNK.out] at this; exact this) HBW.out (Nat.le_refl _)) hbk
              have HEL := Lib.hid hel
              have HOP := Lib.hid (ownk_below (by have := HPb.out.2.1; rw [HNK.out] at this; exact this) HBW.out (Nat.le_refl _) : wr.ownsRow 0 62 2 (.slice (some ⟨g2, 0, none⟩) nk c2) nk (bks L))
              obtain ⟨m0, m1⟩ := bks_two L k2 _ hbk
              have HM0 := Lib.hid m0
              have HM1 := Lib.hid m1
              obtain ⟨-, -, -, -, -, -, hgc2, -⟩ := ownk_some HOP.out (by omega)
              have HX2 := Lib.hid (old_below HXb.out HBW.out (row_lt HXb.out))
              clear hel hbk m0 m1
              go_upto_region 27 with (first | refine wpList_load_at rfl 62 _ rfl ⟨g8, k2 * 2, none⟩ rfl [.int .i64 (b1 : Int), .int .i64 (b2 : Int)] _ HEL.out Try.underlying62 rfl (by kernel_rfl) ?_)
              have HX3 := Lib.hid (old_alloc HX2.out (.cells #[.int .i64 (b1 : Int), .int .i64 (b2 : Int)] 62))
              have HY3 := Lib.hid (heap_alloc_new wr (.cells #[.int .i64 (b1 : Int), .int .i64 (b2 : Int)] 62))
              have HB3 := Lib.hid (HBW.out.alloc HBW.out.size (.cells #[.int .i64 (b1 : Int), .int .i64 (b2 : Int)] 62))
              have HOP3 := Lib.hid (ownk_below HOP.out ((Below.refl _ _).alloc (Nat.le_refl _) (.cells #[.int .i64 (b1 : Int), .int .i64 (b2 : Int)] 62)) (Nat.le_refl _))
              generalize wr.alloc (.cells #[.int .i64 (b1 : Int), .int .i64 (b2 : Int)] 62) = wd at HX3 HY3 HB3 HOP3 ⊢
              generalize wr.heap.size = bd at HY3 ⊢
              obtain ⟨q0, q1, q2⟩ := three_cells HX3.out
              obtain ⟨p0, p1⟩ := two_cells HY3.out
              have e0 := own_cell HOP3.out HM0.out
              have e1 := own_cell HOP3.out HM1.out
              go_quiet (fail)
              rename_i nq
              have HB4 : Hid (Below wb.heap.size wb (wd.drewN nq)) := below_drewN' HB3.out nq
              generalize wd.drewN nq = we at HB4 ⊢
              clear q0 q1 q2 p0 p1 e0 e1
              go_wp2
              go_roundw
              case rel => exact ⟨_, _, _, .int .i64 ((k2 + 1 : Nat) : Int), ⟨k2 + 1, by omega, rfl⟩, rfl, rfl, rfl, by go_num⟩
              case measure => simp [intOf]; omega
            · obtain rfl : k2 = nk := by omega
              have HX2 := Lib.hid (old_below HXb.out HBW.out (row_lt HXb.out))
              have HY2 := Lib.hid (old_below HYb.out HBW.out (row_lt HYb.out))
              have HP2 := Lib.hid (HPb.out.below HBW.out)
              have HU2 := Lib.hid (HUb.out.below HBW.out)
              have HB2 := Lib.hid (HBb.out.trans (HBW.out.mono HBb.out.size))
              have hs1 : (convert 25 9 (.slice A1 nb c1)).run Try.prog wr = .ok (.string ⟨B.toArray⟩) wr := by
                have := run_text (P := Try.prog) wr 25 9 5 (l := B) c1 Try.underlying25 Try.underlying5 Try.underlying9 (ownk_rd (by have := HP2.out.1; rwa [HNB.out] at this))
                rwa [HNB.out] at this
              have hs2 : (convert 25 9 (.slice A7 nb c7)).run Try.prog wr = .ok (.string ⟨B.toArray⟩) wr := by
                have := run_text (P := Try.prog) wr 25 9 5 (l := B) c7 Try.underlying25 Try.underlying5 Try.underlying9 (ownk_rd (by have := HU2.out.1; rwa [HNB.out] at this))
                rwa [HNB.out] at this
              have HRT := Lib.hid (right_hp (w := wr) ⟨_, _, _, rfl, HU2.out⟩ HRF.out)
              obtain ⟨q0, q1, q2⟩ := three_cells HX2.out
              obtain ⟨p0, p1, p2⟩ := three_cells HY2.out
              go_wp2_with (refine wpList_load_row rfl 29 _ rfl S rfl 29 #[.slice A7 nb c7, .slice A8 nk c8, .slice A9 nd2 c9] (0, 0) _ HY2.out Try.underlying29 rfl (by kernel_rfl) ?_)
              refine HRT.out.mono ?_
              rintro e wz ⟨rfl, hbz⟩
              have HBZ := Lib.hid (HB2.out.trans (hbz.mono HB2.out.size))
              clear hbz q0 q1 q2 p0 p1 p2 hs1 hs2
              go_wp2
              go_ret
              exact ⟨rfl, HBZ.out⟩
end Go.Proofs.Ytbgfllndcddnbaa
