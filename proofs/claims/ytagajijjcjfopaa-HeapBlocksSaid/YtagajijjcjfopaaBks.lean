/-
  The law HeapBlocks: every slice of ints and every int. No condition.
-/
import Derived.Test.YtagajijjcjfopaaBlk
namespace Go.Proofs.Ytagajijjcjfopaa
open Go.RowKit Go.Maps

set_option maxRecDepth 100000 in
set_option maxHeartbeats 16000000 in
theorem blocks_any (A : Option Addr) (n c : Nat) (z : Int) (l : List Int) (w : World) (h : Rd w 0 w.heap.size A (l.map (Value.int .i64))) (hl : l.length = n) (hA : A = none → c = 0) (hnc : n ≤ c) :
    Calls Try.prog 4 #[.slice A n c, .int .i64 z] w fun e w' => e = .returned (.bool true) ∧ Below w.heap.size w w' := by
  have HRS := Lib.hid h
  have HLN := Lib.hid hl
  have hmm := @run_makeMap Try.prog
  clear h hl
  go_enter Try.func4, Try.ntmps4
  go_wp2_with fail
  refine (lives_any _).mono ?_
  rintro e w1 ⟨rfl, hb1⟩
  have HB1 := Lib.hid hb1
  clear hb1
  rcases Nat.lt_or_ge 30 n with hn30 | hn30
  · go_wp2_with fail
    refine (lives_any _).mono ?_
    rintro e w3 ⟨rfl, hb3⟩
    have HB3 := Lib.hid (HB1.out.trans (hb3.mono HB1.out.size))
    clear hb3
    go_wp2
    go_ret
    exact ⟨rfl, HB3.out⟩
  go_wp2_with fail
  refine (new_any 8 w1 (by decide) (by decide)).mono ?_
  rintro e w3 ⟨v, rfl, ⟨v1, v2, v3, rfl, hp⟩, hb3⟩
  have HO3 := Lib.hid hp.ones
  have HV3 := Lib.hid (var_new hp)
  have HB3 : Hid (Below w.heap.size w (w3.alloc (.cells #[v1, v2, v3] 29))) := (HB1.out.trans (hb3.mono HB1.out.size)).alloc (by have := HB1.out.size; have := hb3.size; omega) _
  have HNP : Hid (w.heap.size ≤ w3.heap.size) := Nat.le_trans HB1.out.size hb3.size
  clear hp hb3
  go_upto_region 4 with (refine wpList_store_new rfl 29 _ _ rfl w3 #[.slice none 0 0, .slice none 0 0, .slice none 0 0] #[v1, v2, v3] rfl rfl (by kernel_rfl) rfl HO3.out ?_)
  generalize w3.alloc (.cells #[v1, v2, v3] 29) = w4 at HV3 HB3 ⊢
  generalize w3.heap.size = P at HV3 HNP ⊢
  have HV5 := Lib.hid (HV3.out.alloc (.map #[] 0))
  have HM5 : Hid (OwnM w4.heap.size 0 (.map []) (w4.alloc (.map #[] 0))) := World.ownsMap_made _ _ _ _
  have HB5 : Hid (Below w.heap.size w (w4.alloc (.map #[] 0))) := HB3.out.alloc HB3.out.size _
  have HNM : Hid (w.heap.size ≤ w4.heap.size) := HB3.out.size
  go_upto_region 7 with (fail)
  generalize w4.alloc (.map #[] 0) = w5 at HV5 HM5 HB5 ⊢
  generalize w4.heap.size = M at HM5 HNM ⊢
  clear HV3 HB3 HO3 HB1 hmm
  have HR5 : Hid (RightH (List.replicate (64 * 8) 0) [] (List.replicate 8 false)) := RightH.new (by decide) (by decide)
  have HE5 : Hid ((List.replicate 8 false).length = 8) := by show _ = _; simp
  have HK5 := Lib.hid (keys_start (List.replicate (64 * 8) 0))
  have HI5 : Hid (IsMap (.map [] : DataW Unit)) := isMap_empty
  go_wp2
  go_loopw [47] (fun t47 wr => ∃ (k : Nat) (B : List UInt8) (L : List Bk) (E : List Bool) (D : DataW Unit), k ≤ n ∧ t47 = .int .i64 (k : Int) ∧ Hid (VarH P B L E wr) ∧ Hid (RightH B L E) ∧ Hid (E.length = 8) ∧ Hid (OwnM M k D wr) ∧ Hid (IsMap D) ∧ Hid (Keys B L D (has D) k) ∧ Hid (Below w.heap.size w wr)) (fun t47 _ => n - (intOf t47).toNat)
  case atStart => exact ⟨0, _, _, _, _, Nat.zero_le _, rfl, HV5, HR5, HE5, HM5, HI5, HK5, HB5⟩
  case round =>
    obtain ⟨k, B, L, E, D, hk, rfl, HV, HR, HE, HM, HI, HK, HBEL⟩ := hrel
    clear HV5 HR5 HE5 HM5 HI5 HK5 HB5
    by_cases hlt : k < n
    · obtain ⟨x, hx⟩ : ∃ x, l[k]? = some x := ⟨_, List.getElem?_eq_getElem (by rw [HLN.out]; exact hlt)⟩
      obtain ⟨ad, rfl, -, hlo, hcell⟩ := (HRS.out.below HBEL.out (Nat.le_refl _)) k (.int .i64 x) (by simp [hx])
      have HCL := Lib.hid hcell
      obtain ⟨q, hq, hq90⟩ := u64_rem x 90 (by decide) (by decide)
      change (IntKind.u64.wrap x).tmod 90 = (q : Int) at hq
      obtain ⟨v1, v2, v3, hxp, hpp⟩ := HV.out
      have HX := Lib.hid hxp
      have HP := Lib.hid hpp
      obtain ⟨L', a, er, hal⟩ : ∃ M a er, allocO B.length L (1 + (q : Int)) = (M, a, er) := ⟨_, _, _, rfl⟩
      have hala := alloc_any (1 + (q : Int)) wr ⟨_, _, _, rfl, HP.out⟩ HR.out ⟨by omega, by omega⟩
      have herr := alloc_err (T := B.length) (L := L) (n := 1 + (q : Int)) (by omega)
      have hR6 := HR.out.alloc (1 + (q : Int))
      rw [hal] at hala herr hR6
      change er = 0 ∨ er = 5 ∧ L' = L at herr
      have HALA := Lib.hid hala
      have HAL := Lib.hid hal
      have HR6 := Lib.hid hR6
      clear hx hlo hxp hpp hala hal hR6
      go_wp2_with (first | refine wpList_load_row rfl 29 _ rfl P rfl 29 #[v1, v2, v3] (0, 0) _ HX.out Try.underlying29 rfl (by kernel_rfl) ?_)
      clear hcell hq
      refine HALA.out.mono ?_
      rintro e w6 ⟨v', rfl, ⟨z1, z2, z3, rfl, hp6⟩, hb6⟩
      have HO6 := Lib.hid hp6.ones
      have hb7 : Below wr.heap.size wr (w6.alloc (.cells #[z1, z2, z3] 29)) := hb6.alloc hb6.size _
      have HX7 := Lib.hid (old_below HX.out hb7 (row_lt HX.out))
      have HV7 := Lib.hid (HV.out.below hb7)
      have HM7 := Lib.hid (HM.out.below hb7)
      have HW7 := Lib.hid (heap_alloc_new w6 (.cells #[z1, z2, z3] 29))
      have HQ7 := Lib.hid ((hp6.wide (Nat.zero_le _)).alloc (.cells #[z1, z2, z3] 29))
      have HB7 := Lib.hid (HBEL.out.trans (hb7.mono HBEL.out.size))
      clear hp6 hb6 hb7 HALA
      go_upto_region 12 with (first | refine wpList_store_new rfl 29 _ _ rfl w6 #[.slice none 0 0, .slice none 0 0, .slice none 0 0] #[z1, z2, z3] rfl rfl (by kernel_rfl) rfl HO6.out ?_)
      generalize w6.alloc (.cells #[z1, z2, z3] 29) = w7 at HX7 HV7 HM7 HW7 HQ7 HB7 ⊢
      generalize w6.heap.size = Q at HW7 ⊢
      clear HO6 HX HP HV HM HBEL HCL
      rcases herr with he | ⟨he, hL⟩
      · subst he
        obtain ⟨len, hmem, hne, h8, hbd⟩ := alloc_new HR.out HAL.out
        have hin : (a, len) ∈ L' := (hmem _).2 (.inr rfl)
        have hb512 : B.length = 512 := by have := HR.out.len; rw [HE.out] at this; omega
        have hby : ((byteK k).toNat : Int) = (k : Int) + 1 := by simp [byteK]; omega
        have hsto := store_one (B := B) (D := E) hin (by omega) (byteK k)
        have hb8 : Below w7.heap.size w7 (w7.alloc (.cells (cells [byteK k]).toArray 5)) := (Below.refl _ _).alloc (Nat.le_refl _) _
        have hsta := store_any (a : Int) (some ⟨w7.heap.size, 0, none⟩) 1 1 w7.heap.size (w7.heap.size + 1) [byteK k] (w7.alloc (.cells (cells [byteK k]).toArray 5)) ⟨_, _, _, rfl, HQ7.out.below hb8⟩ HR6.out ⟨by omega, by omega⟩ rfl (by decide) (fun h => by cases h) (rd_new w7 (cells [byteK k]) 5 (0, 0)) (by simp)
        have hR8 := HR6.out.store (a : Int) [byteK k]
        rw [hsto] at hsta hR8
        have hkey := HK.out.add HI.out hmem hne (by omega) (by omega)
        have HSTA := Lib.hid hsta
        have HR8 := Lib.hid hR8
        have HE8 : Hid ((markD E a 1).length = 8) := by show _ = _; rw [markD_length, HE.out]
        have HK8 := Lib.hid hkey
        have HI8 := Lib.hid (HI.out.put (KL k) (.lit (.int .i64 (a : Int))))
        have ha5 : a < 5000 := by omega
        have HCW : Hid (cells [byteK k] = [.int .u8 ((k : Int) + 1)]) := by show [Value.int .u8 ((byteK k).toNat : Int)] = _; rw [hby]
        rw [HCW.out] at hb8 HSTA
        have hX8 := old_below HX7.out hb8 (row_lt HX7.out)
        have hW8 := old_below HW7.out hb8 (row_lt HW7.out)
        have hV8 := HV7.out.below hb8
        have hM8 := HM7.out.below hb8
        have hB8 := HB7.out.trans (hb8.mono HB7.out.size)
        have HX8 := Lib.hid hX8
        have HV8 := Lib.hid hV8
        have HM8 := Lib.hid hM8
        have HB8 := Lib.hid hB8
        clear hsta hR8 hkey hsto hmem hne hbd hb512 hin h8 hby hX8 hW8 hV8 hM8 hB8 hb8 HAL HR HE HK HI HR6 HX7 HV7 HM7 HB7
        have hk1 : (k : Int) + 1 < 256 := by omega
        go_wp2_with (first | refine wpList_load_row rfl 29 _ rfl Q rfl 29 #[z1, z2, z3] (0, 0) _ HW7.out Try.underlying29 rfl (by kernel_rfl) ?_)
        generalize w7.alloc (.cells #[.int .u8 ((k : Int) + 1)] 5) = w8 at HSTA HX8 HV8 HM8 HB8 ⊢
        refine HSTA.out.mono ?_
        rintro e w9 ⟨v', rfl, ⟨u1, u2, u3, rfl, hp9⟩, hb9⟩
        have HO9 := Lib.hid hp9.ones
        have hb10 : Below w8.heap.size w8 (w9.alloc (.cells #[u1, u2, u3] 29)) := hb9.alloc hb9.size _
        have HX10 := Lib.hid (old_below HX8.out hb10 (row_lt HX8.out))
        have HM10 := Lib.hid (HM8.out.below hb10)
        have HY10 := Lib.hid (heap_alloc_new w9 (.cells #[u1, u2, u3] 29))
        have HU10 := Lib.hid ((hp9.wide (Nat.zero_le _)).alloc (.cells #[u1, u2, u3] 29))
        have HB10 := Lib.hid (HB8.out.trans (hb10.mono HB8.out.size))
        clear hp9 hb9 hb10 HSTA HX8 HV8 HM8 HB8 HQ7 HW7
        go_upto_region 14 with (first | refine wpList_store_new rfl 29 _ _ rfl w9 #[.slice none 0 0, .slice none 0 0, .slice none 0 0] #[u1, u2, u3] rfl rfl (by kernel_rfl) rfl HO9.out ?_)
        generalize w9.alloc (.cells #[u1, u2, u3] 29) = w10 at HX10 HM10 HY10 HU10 HB10 ⊢
        generalize w9.heap.size = R at HY10 ⊢
        have HV11 := Lib.hid (var_set HU10.out HX10.out)
        have HM11 := Lib.hid (HM10.out.set HX10.out #[u1, u2, u3])
        have HB11 : Hid (Below w.heap.size w (w10.setRow P #[u1, u2, u3])) := below_setRow HB10.out HNP.out _
        go_upto_region 15 with (first | refine wpList_load_row rfl 29 _ rfl R rfl 29 #[u1, u2, u3] (0, 0) _ HY10.out Try.underlying29 rfl (by kernel_rfl) ?_ | refine wpList_store_row rfl 29 _ _ rfl P #[u1, u2, u3] rfl rfl 29 _ HX10.out (by kernel_rfl) rfl HO9.out ?_)
        generalize w10.setRow P #[u1, u2, u3] = w11 at HV11 HM11 HB11 ⊢
        clear HO9 HX10 HM10 HY10 HU10 HB10
        have hkeyk : keyOf Try.prog 3 (.int .i64 (k : Int)) = some (KL k) := key_int (wf_nat (by omega))
        have hwfa : (Lit.int .i64 (a : Int)).wf = true := wf_nat (by omega)
        go_upto_region 18 with (first | (at_mapUpdate; refine wpList_mapUpdate_own _ rfl _ _ _ 47 rfl 3 3 intlaw Try.underlying47 _ M k _ rfl HM11.out (by unfold maxLen; omega) _ _ _ rfl rfl hkeyk _ [] (plainElem_int Try.underlying3 hwfa) ?_; intro w12 hown hgrow) | go_in)
        go_frame
        have HM12 : Hid (OwnM M (k + 1) (D.put (KL k) (.lit (.int .i64 (a : Int)))) w12) := hown
        have HV12 := Lib.hid (HV11.out.turn HM11.out.nocells fun j hj hne => hgrow.block j hj (by simpa using hne))
        have HB12 := Lib.hid (HB11.out.grown hgrow HB11.out.size fun g hg => by cases hg; exact HNM.out)
        clear hown hgrow HV11 HM11 HB11 hkeyk hwfa ha5 hk1
        generalize D.put (KL k) (.lit (.int .i64 (a : Int))) = D8 at HM12 HK8 HI8
        generalize putB B a [byteK k] = B8 at HV12 HR8 HK8
        generalize markD E a 1 = E8 at HV12 HR8 HE8
        obtain ⟨r, hr, hr3⟩ := u64_rem z 3 (by decide) (by decide)
        change (IntKind.u64.wrap z).tmod 3 = (r : Int) at hr
        by_cases hgr : r + 1 ≤ k
        · obtain ⟨g, hg⟩ : ∃ g, g + (r + 1) = k := ⟨k - (r + 1), by omega⟩
          have hgi : (k : Int) - 1 - (r : Int) = (g : Int) := by omega
          have hkeyg : keyOf Try.prog 3 (.int .i64 (g : Int)) = some (KL g) := key_int (wf_nat (by omega))
          go_upto_region 21 with (first | (at_lookup; refine wpList_lookup_own_ok_int _ rfl _ _ 47 rfl 3 3 .i64 intlaw Try.underlying47 Try.underlying3 (zero_int _) M (k + 1) _ rfl HM12.out _ _ rfl hkeyg ?_; intro c2 hat hwc) | go_in)
          cases hh : has D8 (KL g)
          · clear hat hwc hr
            have hcut : ∃ (B : List UInt8) (L : List Bk) (E : List Bool) (D : DataW Unit), Hid (VarH P B L E w12) ∧ Hid (RightH B L E) ∧ Hid (E.length = 8) ∧ Hid (OwnM M (k + 1) D w12) ∧ Hid (IsMap D) ∧ Hid (Keys B L D (has D) (k + 1)) ∧ Hid (Below w.heap.size w w12) := ⟨_, _, _, _, HV12, HR8, HE8, HM12, HI8, HK8, HB12⟩
            clear HV12 HR8 HE8 HM12 HI8 HK8 HB12
            generalize w12 = wx at hcut ⊢
            obtain ⟨B3, L3, E3, D3, HV, HR, HE, HM, HI, HK, HBE⟩ := hcut
            go_wp2_with (first | (at_range; refine wpList_range_own _ rfl _ 47 rfl 3 3 intlaw Try.underlying47 _ M (k + 1) _ rfl HM.out ?_; intro w0 hrg0 hg0 hs0) | go_in)
            go_frame
            have hb0 := (Below.refl wx.heap.size wx).grown hg0 (Nat.le_refl _) (fun g hg => by cases hg)
            have HRG0 : Hid (RangeM M wx.heap.size (k + 1) D3 (has D3) (Maps.size D3) w0) := hrg0
            have HV0 := Lib.hid (HV.out.below hb0)
            have HB0 := Lib.hid (HBE.out.trans (hb0.mono HBE.out.size))
            have HNI : Hid (w.heap.size ≤ wx.heap.size) := HBE.out.size
            generalize wx.heap.size = J at HRG0 HNI ⊢
            clear hb0 hrg0 hg0 hs0 HV HM HBE
            go_loopw [20] (fun t20 wi => ∃ (left : Lit → Bool) (cnt : Nat), Hid (RangeM M J (k + 1) D3 left cnt wi) ∧ Hid (VarH P B3 L3 E3 wi) ∧ Hid (Below w.heap.size w wi)) (fun _ wi => wi.rangeLeft M J)
            case atStart => exact ⟨_, _, HRG0, HV0, HB0⟩
            case round =>
              obtain ⟨left, cnt, HRG, HVI, HBI⟩ := hrel
              clear HRG0 HV0 HB0
              go_wp2_with (first | (at_next; refine wpList_next_ranges_ii _ rfl _ rfl 3 3 .i64 .i64 intlaw Try.underlying3 Try.underlying3 M J (k + 1) _ _ _ rfl HRG.out ?_ ?_) | go_in)
              · intro _ hl0
                clear hl0
                have HMI : Hid (OwnM M (k + 1) D3 _) := World.ranges.owns HRG.out
                go_wp2
                go_roundw
                case rel => exact ⟨k + 1, _, _, _, _, by omega, by go_num, HVI, HR, HE, HMI, HI, HK, HBI⟩
                case measure => simp [intOf]; omega
              · intro x2 c3 wj cnt1 hwx hwc hlx hat hrg1 hltc hg1 hs1 hen
                obtain ⟨k2, a2, len2, ek, hk2, hat2, hL2, hB2⟩ := HK.out.at_ _ (has_true_of_atKey hat)
                injection ek with _ ek
                subst ek
                have hc := (hat .nil).symm.trans (hat2 .nil)
                injection hc with hc
                injection hc with _ hc
                subst hc
                have h8 := (blk_bound HR.out.blk _ hL2).2
                have hb512 : B3.length = 512 := by have := HR.out.len; rw [HE.out] at this; omega
                have hnj : ∀ j, j < wr.heap.size → j ≠ J → wj.heap[j]? = wr.heap[j]? := fun j hj hne => hg1.block j hj (by simpa using hne)
                have HVJ := Lib.hid (HVI.out.turn (RangeM.nocells HRG.out).2 hnj)
                have HBJ := Lib.hid (HBI.out.grown hg1 HBI.out.size fun g hg => by cases hg; exact HNI.out)
                have HRJ : Hid (RangeM M J (k + 1) D3 (fun y => left y && !y.sameKey (KL k2)) cnt1 wj) := hrg1
                obtain ⟨y1, y2, y3, hxj, hpj⟩ := HVJ.out
                have HXJ := Lib.hid hxj
                have hld := load_any (a2 : Int) 1 wj ⟨_, _, _, rfl, hpj⟩ HR.out ⟨by simp only at h8; omega, by simp only at h8; omega⟩ ⟨by decide, by decide⟩
                rw [load_one hL2 (by simp only at h8; omega) hB2] at hld
                have HLD := Lib.hid hld
                have HLT := Lib.hid hltc
                have hby : ((byteK k2).toNat : Int) = (k2 : Int) + 1 := by simp [byteK]; omega
                have HBY := Lib.hid hby
                have hk3 : k2 < 30 := by omega
                clear hld hxj hpj hat hat2 hL2 hB2 h8 hb512 hnj hrg1 hg1 hs1 hlx hwx hwc hltc hby
                go_wp2_with (first | refine wpList_load_row rfl 29 _ rfl P rfl 29 #[y1, y2, y3] (0, 0) _ HXJ.out Try.underlying29 rfl (by kernel_rfl) ?_)
                refine HLD.out.mono ?_
                rintro e wk ⟨u, rfl, hu, hbk⟩
                obtain ⟨gu, cu, cur, rfl, -⟩ := ownk_some hu (by simp)
                have ku := own_cell (j := 0) (u := .int .u8 ((k2 : Int) + 1)) hu (by show some (Value.int .u8 ((byteK k2).toNat : Int)) = _; rw [HBY.out])
                have HRK := Lib.hid (RangeM.below HRJ.out hbk)
                have HVK := Lib.hid (HVJ.out.below hbk)
                have HBK := Lib.hid (HBJ.out.trans (hbk.mono HBJ.out.size))
                have hk4 : (k2 : Int) + 1 < 256 := by omega
                clear hu hbk HLD HRJ HVJ HBJ HXJ hen
                go_wp2
                go_roundw
                case rel => exact ⟨_, _, HRK, HVK, HBK⟩
                case measure => rw [World.ranges.left_eq HRK.out, World.ranges.left_eq HRG.out]; exact HLT.out
          · obtain ⟨a2, B9, L9, E9, hat2, ha2, hfo, hR9, hE9, hK9⟩ := HK8.out.free (D' := D8.del (KL g)) (left' := has (D8.del (KL g))) HR8.out (by omega) hh del_left1 del_left2 (fun kl zd e => atKey_del_other e zd)
            obtain rfl : c2 = (a2 : Int) := by
              rw [hat2] at hat
              injection hat with hat
              injection hat with _ hat
              exact hat.symm
            obtain ⟨y1, y2, y3, hx12, hp12⟩ := HV12.out
            have HX12 := Lib.hid hx12
            have hfr := free_any (a2 : Int) w12 ⟨_, _, _, rfl, hp12⟩ HR8.out ⟨by omega, by omega⟩
            rw [hfo] at hfr
            have HFR := Lib.hid hfr
            have HR9 := Lib.hid hR9
            have HE9 : Hid (E9.length = 8) := hE9.trans HE8.out
            have HK9 := Lib.hid hK9
            have HI9 := Lib.hid (HI8.out.del (KL g))
            clear hfr hfo hR9 hE9 hK9 hx12 hp12 hat hat2 hwc hr HR8 HE8 HK8 HI8
            go_wp2_with (first | refine wpList_load_row rfl 29 _ rfl P rfl 29 #[y1, y2, y3] (0, 0) _ HX12.out Try.underlying29 rfl (by kernel_rfl) ?_)
            refine HFR.out.mono ?_
            rintro e w13 ⟨v', rfl, ⟨u1, u2, u3, rfl, hp13⟩, hb13⟩
            have HO13 := Lib.hid hp13.ones
            have hb14 : Below w12.heap.size w12 (w13.alloc (.cells #[u1, u2, u3] 29)) := hb13.alloc hb13.size _
            have HX14 := Lib.hid (old_below HX12.out hb14 (row_lt HX12.out))
            have HM14 := Lib.hid (HM12.out.below hb14)
            have HY14 := Lib.hid (heap_alloc_new w13 (.cells #[u1, u2, u3] 29))
            have HU14 := Lib.hid ((hp13.wide (Nat.zero_le _)).alloc (.cells #[u1, u2, u3] 29))
            have HB14 := Lib.hid (HB12.out.trans (hb14.mono HB12.out.size))
            clear hp13 hb13 hb14 HFR HX12 HM12 HV12 HB12
            go_upto_region 23 with (first | refine wpList_store_new rfl 29 _ _ rfl w13 #[.slice none 0 0, .slice none 0 0, .slice none 0 0] #[u1, u2, u3] rfl rfl (by kernel_rfl) rfl HO13.out ?_)
            generalize w13.alloc (.cells #[u1, u2, u3] 29) = w14 at HX14 HM14 HY14 HU14 HB14 ⊢
            generalize w13.heap.size = S at HY14 ⊢
            have HV15 := Lib.hid (var_set HU14.out HX14.out)
            have HM15 := Lib.hid (HM14.out.set HX14.out #[u1, u2, u3])
            have HB15 : Hid (Below w.heap.size w (w14.setRow P #[u1, u2, u3])) := below_setRow HB14.out HNP.out _
            go_upto_region 24 with (first | refine wpList_load_row rfl 29 _ rfl S rfl 29 #[u1, u2, u3] (0, 0) _ HY14.out Try.underlying29 rfl (by kernel_rfl) ?_ | refine wpList_store_row rfl 29 _ _ rfl P #[u1, u2, u3] rfl rfl 29 _ HX14.out (by kernel_rfl) rfl HO13.out ?_)
            generalize w14.setRow P #[u1, u2, u3] = w15 at HV15 HM15 HB15 ⊢
            clear HO13 HX14 HM14 HY14 HU14 HB14
            go_upto_region 27 with (first | (at_delete; refine wpList_delete_own _ rfl _ _ 47 3 rfl 3 intlaw Try.underlying47 _ M (k + 1) _ rfl HM15.out _ _ rfl hkeyg ?_; intro w16 hown hturn) | go_in)
            go_frame
            have HM16 : Hid (OwnM M (k + 1) (D8.del (KL g)) w16) := hown
            have HV16 := Lib.hid (HV15.out.turn HM15.out.nocells fun j hj hne => hturn.grown.block j hj (by simpa using hne))
            have HB16 := Lib.hid (HB15.out.grown hturn.grown HB15.out.size fun g hg => by cases hg; exact HNM.out)
            clear hown hturn HV15 HM15 HB15
            have hcut : ∃ (B : List UInt8) (L : List Bk) (E : List Bool) (D : DataW Unit), Hid (VarH P B L E w16) ∧ Hid (RightH B L E) ∧ Hid (E.length = 8) ∧ Hid (OwnM M (k + 1) D w16) ∧ Hid (IsMap D) ∧ Hid (Keys B L D (has D) (k + 1)) ∧ Hid (Below w.heap.size w w16) := ⟨_, _, _, _, HV16, HR9, HE9, HM16, HI9, HK9, HB16⟩
            clear HV16 HR9 HE9 HM16 HI9 HK9 HB16
            generalize w16 = wx at hcut ⊢
            obtain ⟨B3, L3, E3, D3, HV, HR, HE, HM, HI, HK, HBE⟩ := hcut
            go_wp2_with (first | (at_range; refine wpList_range_own _ rfl _ 47 rfl 3 3 intlaw Try.underlying47 _ M (k + 1) _ rfl HM.out ?_; intro w0 hrg0 hg0 hs0) | go_in)
            go_frame
            have hb0 := (Below.refl wx.heap.size wx).grown hg0 (Nat.le_refl _) (fun g hg => by cases hg)
            have HRG0 : Hid (RangeM M wx.heap.size (k + 1) D3 (has D3) (Maps.size D3) w0) := hrg0
            have HV0 := Lib.hid (HV.out.below hb0)
            have HB0 := Lib.hid (HBE.out.trans (hb0.mono HBE.out.size))
            have HNI : Hid (w.heap.size ≤ wx.heap.size) := HBE.out.size
            generalize wx.heap.size = J at HRG0 HNI ⊢
            clear hb0 hrg0 hg0 hs0 HV HM HBE
            go_loopw [20] (fun t20 wi => ∃ (left : Lit → Bool) (cnt : Nat), Hid (RangeM M J (k + 1) D3 left cnt wi) ∧ Hid (VarH P B3 L3 E3 wi) ∧ Hid (Below w.heap.size w wi)) (fun _ wi => wi.rangeLeft M J)
            case atStart => exact ⟨_, _, HRG0, HV0, HB0⟩
            case round =>
              obtain ⟨left, cnt, HRG, HVI, HBI⟩ := hrel
              clear HRG0 HV0 HB0
              go_wp2_with (first | (at_next; refine wpList_next_ranges_ii _ rfl _ rfl 3 3 .i64 .i64 intlaw Try.underlying3 Try.underlying3 M J (k + 1) _ _ _ rfl HRG.out ?_ ?_) | go_in)
              · intro _ hl0
                clear hl0
                have HMI : Hid (OwnM M (k + 1) D3 _) := World.ranges.owns HRG.out
                go_wp2
                go_roundw
                case rel => exact ⟨k + 1, _, _, _, _, by omega, by go_num, HVI, HR, HE, HMI, HI, HK, HBI⟩
                case measure => simp [intOf]; omega
              · intro x2 c3 wj cnt1 hwx hwc hlx hat hrg1 hltc hg1 hs1 hen
                obtain ⟨k2, a2, len2, ek, hk2, hat2, hL2, hB2⟩ := HK.out.at_ _ (has_true_of_atKey hat)
                injection ek with _ ek
                subst ek
                have hc := (hat .nil).symm.trans (hat2 .nil)
                injection hc with hc
                injection hc with _ hc
                subst hc
                have h8 := (blk_bound HR.out.blk _ hL2).2
                have hb512 : B3.length = 512 := by have := HR.out.len; rw [HE.out] at this; omega
                have hnj : ∀ j, j < wr.heap.size → j ≠ J → wj.heap[j]? = wr.heap[j]? := fun j hj hne => hg1.block j hj (by simpa using hne)
                have HVJ := Lib.hid (HVI.out.turn (RangeM.nocells HRG.out).2 hnj)
                have HBJ := Lib.hid (HBI.out.grown hg1 HBI.out.size fun g hg => by cases hg; exact HNI.out)
                have HRJ : Hid (RangeM M J (k + 1) D3 (fun y => left y && !y.sameKey (KL k2)) cnt1 wj) := hrg1
                obtain ⟨y1, y2, y3, hxj, hpj⟩ := HVJ.out
                have HXJ := Lib.hid hxj
                have hld := load_any (a2 : Int) 1 wj ⟨_, _, _, rfl, hpj⟩ HR.out ⟨by simp only at h8; omega, by simp only at h8; omega⟩ ⟨by decide, by decide⟩
                rw [load_one hL2 (by simp only at h8; omega) hB2] at hld
                have HLD := Lib.hid hld
                have HLT := Lib.hid hltc
                have hby : ((byteK k2).toNat : Int) = (k2 : Int) + 1 := by simp [byteK]; omega
                have HBY := Lib.hid hby
                have hk3 : k2 < 30 := by omega
                clear hld hxj hpj hat hat2 hL2 hB2 h8 hb512 hnj hrg1 hg1 hs1 hlx hwx hwc hltc hby
                go_wp2_with (first | refine wpList_load_row rfl 29 _ rfl P rfl 29 #[y1, y2, y3] (0, 0) _ HXJ.out Try.underlying29 rfl (by kernel_rfl) ?_)
                refine HLD.out.mono ?_
                rintro e wk ⟨u, rfl, hu, hbk⟩
                obtain ⟨gu, cu, cur, rfl, -⟩ := ownk_some hu (by simp)
                have ku := own_cell (j := 0) (u := .int .u8 ((k2 : Int) + 1)) hu (by show some (Value.int .u8 ((byteK k2).toNat : Int)) = _; rw [HBY.out])
                have HRK := Lib.hid (RangeM.below HRJ.out hbk)
                have HVK := Lib.hid (HVJ.out.below hbk)
                have HBK := Lib.hid (HBJ.out.trans (hbk.mono HBJ.out.size))
                have hk4 : (k2 : Int) + 1 < 256 := by omega
                clear hu hbk HLD HRJ HVJ HBJ HXJ hen
                go_wp2
                go_roundw
                case rel => exact ⟨_, _, HRK, HVK, HBK⟩
                case measure => rw [World.ranges.left_eq HRK.out, World.ranges.left_eq HRG.out]; exact HLT.out
        · have hgi : (k : Int) - 1 - (r : Int) < 0 := by omega
          have hcut : ∃ (B : List UInt8) (L : List Bk) (E : List Bool) (D : DataW Unit), Hid (VarH P B L E w12) ∧ Hid (RightH B L E) ∧ Hid (E.length = 8) ∧ Hid (OwnM M (k + 1) D w12) ∧ Hid (IsMap D) ∧ Hid (Keys B L D (has D) (k + 1)) ∧ Hid (Below w.heap.size w w12) := ⟨_, _, _, _, HV12, HR8, HE8, HM12, HI8, HK8, HB12⟩
          clear HV12 HR8 HE8 HM12 HI8 HK8 HB12
          generalize w12 = wx at hcut ⊢
          obtain ⟨B3, L3, E3, D3, HV, HR, HE, HM, HI, HK, HBE⟩ := hcut
          go_wp2_with (first | (at_range; refine wpList_range_own _ rfl _ 47 rfl 3 3 intlaw Try.underlying47 _ M (k + 1) _ rfl HM.out ?_; intro w0 hrg0 hg0 hs0) | go_in)
          go_frame
          have hb0 := (Below.refl wx.heap.size wx).grown hg0 (Nat.le_refl _) (fun g hg => by cases hg)
          have HRG0 : Hid (RangeM M wx.heap.size (k + 1) D3 (has D3) (Maps.size D3) w0) := hrg0
          have HV0 := Lib.hid (HV.out.below hb0)
          have HB0 := Lib.hid (HBE.out.trans (hb0.mono HBE.out.size))
          have HNI : Hid (w.heap.size ≤ wx.heap.size) := HBE.out.size
          generalize wx.heap.size = J at HRG0 HNI ⊢
          clear hb0 hrg0 hg0 hs0 HV HM HBE
          go_loopw [20] (fun t20 wi => ∃ (left : Lit → Bool) (cnt : Nat), Hid (RangeM M J (k + 1) D3 left cnt wi) ∧ Hid (VarH P B3 L3 E3 wi) ∧ Hid (Below w.heap.size w wi)) (fun _ wi => wi.rangeLeft M J)
          case atStart => exact ⟨_, _, HRG0, HV0, HB0⟩
          case round =>
            obtain ⟨left, cnt, HRG, HVI, HBI⟩ := hrel
            clear HRG0 HV0 HB0
            go_wp2_with (first | (at_next; refine wpList_next_ranges_ii _ rfl _ rfl 3 3 .i64 .i64 intlaw Try.underlying3 Try.underlying3 M J (k + 1) _ _ _ rfl HRG.out ?_ ?_) | go_in)
            · intro _ hl0
              clear hl0
              have HMI : Hid (OwnM M (k + 1) D3 _) := World.ranges.owns HRG.out
              go_wp2
              go_roundw
              case rel => exact ⟨k + 1, _, _, _, _, by omega, by go_num, HVI, HR, HE, HMI, HI, HK, HBI⟩
              case measure => simp [intOf]; omega
            · intro x2 c3 wj cnt1 hwx hwc hlx hat hrg1 hltc hg1 hs1 hen
              obtain ⟨k2, a2, len2, ek, hk2, hat2, hL2, hB2⟩ := HK.out.at_ _ (has_true_of_atKey hat)
              injection ek with _ ek
              subst ek
              have hc := (hat .nil).symm.trans (hat2 .nil)
              injection hc with hc
              injection hc with _ hc
              subst hc
              have h8 := (blk_bound HR.out.blk _ hL2).2
              have hb512 : B3.length = 512 := by have := HR.out.len; rw [HE.out] at this; omega
              have hnj : ∀ j, j < wr.heap.size → j ≠ J → wj.heap[j]? = wr.heap[j]? := fun j hj hne => hg1.block j hj (by simpa using hne)
              have HVJ := Lib.hid (HVI.out.turn (RangeM.nocells HRG.out).2 hnj)
              have HBJ := Lib.hid (HBI.out.grown hg1 HBI.out.size fun g hg => by cases hg; exact HNI.out)
              have HRJ : Hid (RangeM M J (k + 1) D3 (fun y => left y && !y.sameKey (KL k2)) cnt1 wj) := hrg1
              obtain ⟨y1, y2, y3, hxj, hpj⟩ := HVJ.out
              have HXJ := Lib.hid hxj
              have hld := load_any (a2 : Int) 1 wj ⟨_, _, _, rfl, hpj⟩ HR.out ⟨by simp only at h8; omega, by simp only at h8; omega⟩ ⟨by decide, by decide⟩
              rw [load_one hL2 (by simp only at h8; omega) hB2] at hld
              have HLD := Lib.hid hld
              have HLT := Lib.hid hltc
              have hby : ((byteK k2).toNat : Int) = (k2 : Int) + 1 := by simp [byteK]; omega
              have HBY := Lib.hid hby
              have hk3 : k2 < 30 := by omega
              clear hld hxj hpj hat hat2 hL2 hB2 h8 hb512 hnj hrg1 hg1 hs1 hlx hwx hwc hltc hby
              go_wp2_with (first | refine wpList_load_row rfl 29 _ rfl P rfl 29 #[y1, y2, y3] (0, 0) _ HXJ.out Try.underlying29 rfl (by kernel_rfl) ?_)
              refine HLD.out.mono ?_
              rintro e wk ⟨u, rfl, hu, hbk⟩
              obtain ⟨gu, cu, cur, rfl, -⟩ := ownk_some hu (by simp)
              have ku := own_cell (j := 0) (u := .int .u8 ((k2 : Int) + 1)) hu (by show some (Value.int .u8 ((byteK k2).toNat : Int)) = _; rw [HBY.out])
              have HRK := Lib.hid (RangeM.below HRJ.out hbk)
              have HVK := Lib.hid (HVJ.out.below hbk)
              have HBK := Lib.hid (HBJ.out.trans (hbk.mono HBJ.out.size))
              have hk4 : (k2 : Int) + 1 < 256 := by omega
              clear hu hbk HLD HRJ HVJ HBJ HXJ hen
              go_wp2
              go_roundw
              case rel => exact ⟨_, _, HRK, HVK, HBK⟩
              case measure => rw [World.ranges.left_eq HRK.out, World.ranges.left_eq HRG.out]; exact HLT.out
      · subst he
        go_wp2
        go_roundw
        case rel => exact ⟨k + 1, B, L, E, D, by omega, by go_num, HV7, HR, HE, Lib.hid (World.ownsMap.mono HM7.out (Nat.le_succ k)), HI, Lib.hid (HK.out.mono (Nat.le_succ k)), HB7⟩
        case measure => simp [intOf]; omega
    · go_wp2_with (first | (at_range; refine wpList_range_own _ rfl _ 47 rfl 3 3 intlaw Try.underlying47 _ M k _ rfl HM.out ?_; intro w0 hrg0 hg0 hs0) | go_in)
      go_frame
      have hb0 := (Below.refl wr.heap.size wr).grown hg0 (Nat.le_refl _) (fun g hg => by cases hg)
      have HRG0 : Hid (RangeM M wr.heap.size k D (has D) (Maps.size D) w0) := hrg0
      have HV0 := Lib.hid (HV.out.below hb0)
      have HB0 := Lib.hid (HBEL.out.trans (hb0.mono HBEL.out.size))
      have HNI : Hid (w.heap.size ≤ wr.heap.size) := HBEL.out.size
      generalize wr.heap.size = J at HRG0 HNI ⊢
      clear hb0 hrg0 hg0 hs0 HV HM HBEL HI
      go_loopw [25] (fun t25 wi => ∃ (left : Lit → Bool) (cnt : Nat) (B : List UInt8) (L : List Bk) (E : List Bool), Hid (RangeM M J k D left cnt wi) ∧ Hid (VarH P B L E wi) ∧ Hid (RightH B L E) ∧ Hid (E.length = 8) ∧ Hid (Keys B L D left k) ∧ Hid (Below w.heap.size w wi)) (fun _ wi => wi.rangeLeft M J)
      case atStart => exact ⟨_, _, _, _, _, HRG0, HV0, HR, HE, HK, HB0⟩
      case round =>
        obtain ⟨left, cnt, B3, L3, E3, HRG, HVI, HR3, HE3, HK3, HBI⟩ := hrel
        clear HRG0 HV0 HB0 HR HE HK
        go_wp2_with (first | (at_next; refine wpList_next_ranges_ii _ rfl _ rfl 3 3 .i64 .i64 intlaw Try.underlying3 Try.underlying3 M J k _ _ _ rfl HRG.out ?_ ?_) | go_in)
        · intro _ hl0
          have hL : L3 = [] := HK3.out.none hl0
          subst hL
          obtain ⟨y1, y2, y3, hx, hp⟩ := HVI.out
          have hb512 : B3.length = 512 := by have := HR3.out.len; rw [HE3.out] at this; omega
          have hall := alloc_any 512 wr ⟨_, _, _, rfl, hp⟩ HR3.out ⟨by decide, by decide⟩
          rw [alloc_all _ hb512] at hall
          obtain ⟨A2, c2, rfl, -⟩ := ownk_form hp.2.1
          have HX := Lib.hid hx
          have HALL := Lib.hid hall
          clear hx hp hall hl0 hb512 HRG HK3 HR3 HE3
          go_wp2_with (first | refine wpList_load_row rfl 29 _ rfl P rfl 29 #[y1, .slice A2 ([] : List Bk).length c2, y3] (0, 0) _ HX.out Try.underlying29 rfl (by kernel_rfl) ?_)
          refine HALL.out.mono ?_
          rintro e w2 ⟨v', rfl, ⟨u1, u2, u3, rfl, hp2⟩, hb2⟩
          have HO2 := Lib.hid hp2.ones
          have hb3 : Below wr.heap.size wr (w2.alloc (.cells #[u1, u2, u3] 29)) := hb2.alloc hb2.size _
          have HX4 := Lib.hid (old_below HX.out hb3 (row_lt HX.out))
          have HB4 := Lib.hid (HBI.out.trans (hb3.mono HBI.out.size))
          clear hp2 hb2 hb3 HX HALL HVI HBI
          go_upto_region 42 with (first | refine wpList_store_new rfl 29 _ _ rfl w2 #[.slice none 0 0, .slice none 0 0, .slice none 0 0] #[u1, u2, u3] rfl rfl (by kernel_rfl) rfl HO2.out ?_)
          generalize w2.alloc (.cells #[u1, u2, u3] 29) = w4 at HX4 HB4 ⊢
          obtain ⟨p0, p1, p2⟩ := three_cells HX4.out
          clear HX4 HO2
          go_wp2
          go_ret
          exact ⟨rfl, HB4.out⟩
        · intro x2 c3 wj cnt1 hwx hwc hlx hat hrg1 hltc hg1 hs1 hen
          obtain ⟨k2, a3, len2, ek, hk2, -⟩ := HK3.out.at_ _ hlx
          injection ek with _ ek
          subst ek
          obtain ⟨a2, B9, L9, E9, hat2, ha2, hfo, hR9, hE9, hK9⟩ := HK3.out.free (D' := D) (left' := fun y => left y && !y.sameKey (KL k2)) HR3.out (by omega) hlx (step_left1 (by omega)) step_left2 (fun _ _ _ => rfl)
          have hc := (hat .nil).symm.trans (hat2 .nil)
          injection hc with hc
          injection hc with _ hc
          subst hc
          have hnj : ∀ j, j < wr.heap.size → j ≠ J → wj.heap[j]? = wr.heap[j]? := fun j hj hne => hg1.block j hj (by simpa using hne)
          have HVJ := Lib.hid (HVI.out.turn (RangeM.nocells HRG.out).2 hnj)
          have HBJ := Lib.hid (HBI.out.grown hg1 HBI.out.size fun g hg => by cases hg; exact HNI.out)
          have HRJ : Hid (RangeM M J k D (fun y => left y && !y.sameKey (KL k2)) cnt1 wj) := hrg1
          obtain ⟨y1, y2, y3, hxj, hpj⟩ := HVJ.out
          have HXJ := Lib.hid hxj
          have hfr := free_any (a2 : Int) wj ⟨_, _, _, rfl, hpj⟩ HR3.out ⟨by omega, by omega⟩
          rw [hfo] at hfr
          have HFR := Lib.hid hfr
          have HR9 := Lib.hid hR9
          have HE9 : Hid (E9.length = 8) := hE9.trans HE3.out
          have HK9 := Lib.hid hK9
          have HLT := Lib.hid hltc
          clear hfr hfo hR9 hE9 hK9 hxj hpj hat hat2 hnj hrg1 hg1 hs1 hlx hwx hwc hltc HR3 HE3 HK3 HVI HBI
          go_wp2_with (first | refine wpList_load_row rfl 29 _ rfl P rfl 29 #[y1, y2, y3] (0, 0) _ HXJ.out Try.underlying29 rfl (by kernel_rfl) ?_)
          refine HFR.out.mono ?_
          rintro e w13 ⟨v', rfl, ⟨u1, u2, u3, rfl, hp13⟩, hb13⟩
          have HO13 := Lib.hid hp13.ones
          have hb14 : Below wj.heap.size wj (w13.alloc (.cells #[u1, u2, u3] 29)) := hb13.alloc hb13.size _
          have HX14 := Lib.hid (old_below HXJ.out hb14 (row_lt HXJ.out))
          have HM14 := Lib.hid (RangeM.below HRJ.out hb14)
          have HY14 := Lib.hid (heap_alloc_new w13 (.cells #[u1, u2, u3] 29))
          have HU14 := Lib.hid ((hp13.wide (Nat.zero_le _)).alloc (.cells #[u1, u2, u3] 29))
          have HB14 := Lib.hid (HBJ.out.trans (hb14.mono HBJ.out.size))
          clear hp13 hb13 hb14 HFR HXJ HRJ HVJ HBJ hen
          go_upto_region 38 with (first | refine wpList_store_new rfl 29 _ _ rfl w13 #[.slice none 0 0, .slice none 0 0, .slice none 0 0] #[u1, u2, u3] rfl rfl (by kernel_rfl) rfl HO13.out ?_)
          generalize w13.alloc (.cells #[u1, u2, u3] 29) = w14 at HX14 HM14 HY14 HU14 HB14 ⊢
          generalize w13.heap.size = S at HY14 ⊢
          have HV15 := Lib.hid (var_set HU14.out HX14.out)
          have HM15 := Lib.hid (RangeM.set HM14.out HX14.out #[u1, u2, u3])
          have HB15 : Hid (Below w.heap.size w (w14.setRow P #[u1, u2, u3])) := below_setRow HB14.out HNP.out _
          go_upto_region 39 with (first | refine wpList_load_row rfl 29 _ rfl S rfl 29 #[u1, u2, u3] (0, 0) _ HY14.out Try.underlying29 rfl (by kernel_rfl) ?_ | refine wpList_store_row rfl 29 _ _ rfl P #[u1, u2, u3] rfl rfl 29 _ HX14.out (by kernel_rfl) rfl HO13.out ?_)
          generalize w14.setRow P #[u1, u2, u3] = w15 at HV15 HM15 HB15 ⊢
          clear HO13 HX14 HM14 HY14 HU14 HB14
          go_wp2
          go_roundw
          case rel => exact ⟨_, _, _, _, _, HM15, HV15, HR9, HE9, HK9, HB15⟩
          case measure => rw [World.ranges.left_eq HM15.out, World.ranges.left_eq HRG.out]; exact HLT.out
end Go.Proofs.Ytagajijjcjfopaa
