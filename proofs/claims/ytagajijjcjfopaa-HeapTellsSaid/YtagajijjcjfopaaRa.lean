/-
  The document's Alloc. No condition.
-/
import Derived.Test.YtagajijjcjfopaaRam
namespace Go.Proofs.Ytagajijjcjfopaa
open Go.RowKit

set_option maxRecDepth 100000 in
set_option maxHeartbeats 8000000 in
theorem refalloc_any {B : List UInt8} {L : List Bk} {D : List Bool} {v : Value} (n : Int) (w : World) (hv : Rf B L D v w) (hR : RightH B L D) (hni : I64 n) :
    Calls Try.prog 25 #[v, .int .i64 n] w fun e w' => ∃ v', e = .returned (.tuple #[v', .int .i64 ((allocO B.length L n).2.1 : Int), .int .i64 (allocO B.length L n).2.2]) ∧ Rf B (allocO B.length L n).1 D v' w' ∧ Below w.heap.size w w' := by
  unfold I64 at hni
  obtain ⟨i0, hi0, hz0, hz1, hz2⟩ := info_parts info_rb
  obtain ⟨nb, hnb⟩ : ∃ k, B.length = k := ⟨_, rfl⟩
  obtain ⟨nk, hnk⟩ : ∃ k, L.length = k := ⟨_, rfl⟩
  obtain ⟨nd, hnd⟩ : ∃ k, D.length = k := ⟨_, rfl⟩
  obtain ⟨v1, v2, v3, rfl, hv⟩ := hv
  obtain ⟨A2, c2, A3, c3, rfl, rfl, rfl⟩ := hv.forms hnk hnd
  obtain ⟨S, hS⟩ : ∃ S : ByteArray, ⟨B.toArray⟩ = S := ⟨_, rfl⟩
  have hSz : S.size = nb := by rw [← hS, ← hnb]; rfl
  have hnd64 : nd ≤ 64 := by rw [← hnd]; exact hR.most
  have hnb64 : nb = 64 * nd := by rw [← hnb, ← hnd]; exact hR.len
  have hmy : nk ≤ 4096 := by have := hR.many; have := hR.bytes; omega
  rw [hS] at hv ⊢
  have HS := Lib.hid hS
  have HNB := Lib.hid hnb
  have HNK := Lib.hid hnk
  have HND := Lib.hid hnd
  have HR := Lib.hid hR
  go_enter Try.func25, Try.ntmps25
  go_upto_region 1 with (fail)
  obtain ⟨w1, hw1⟩ : ∃ w1, (w.alloc (.cells #[.string S, .slice A2 nk c2, .slice A3 nd c3] 35)).alloc (.cells #[.string ⟨#[]⟩, .slice none 0 0, .slice none 0 0] 35) = w1 := ⟨_, rfl⟩
  obtain ⟨hb1, hx1, hy1, hv1⟩ := ref_start hv hw1
  have HB1 := Lib.hid hb1
  have HX := Lib.hid hx1
  have HY := Lib.hid hy1
  have HV := Lib.hid hv1
  rw [hw1]
  clear hb1 hx1 hy1 hv1 hw1 hv hnb hnk hnd hR hS
  have hb8 : nb ≤ 4096 := by omega
  have hnb8 : nb % 8 = 0 := by omega
  clear hnb64
  by_cases q0 : n < 1
  · have HRES : Hid (allocO B.length L n = (L, 0, 1)) := by
      show _ = _
      unfold allocO
      rw [if_pos q0]
    have HO := Lib.hid HV.out.ones
    have hend := ref_end HV.out HY.out HB1.out (Nat.le_succ _)
    obtain ⟨x0, x1, x2⟩ := three_cells HX.out
    go_wp2_with (first | refine wpList_load_row rfl 35 _ rfl w.heap.size rfl 35 #[.string S, .slice A2 nk c2, .slice A3 nd c3] (0, 0) _ HX.out Try.underlying35 rfl (by kernel_rfl) ?_ | refine wpList_store_row rfl 35 _ _ rfl (w.heap.size + 1) #[.string S, .slice A2 nk c2, .slice A3 nd c3] rfl rfl 35 _ HY.out (by kernel_rfl) rfl HO.out ?_)
    refine ret_three (g := w.heap.size + 1) rfl rfl hend.2.2 Try.underlying35 rfl (by kernel_rfl) rfl ?_
    rw [HRES.out]
    exact ⟨_, rfl, hend.1, hend.2.1⟩
  by_cases q1 : (nb : Int) < n
  · have HRES : Hid (allocO B.length L n = (L, 0, 5)) := by
      show _ = _
      unfold allocO
      rw [if_neg (by omega), if_pos (by rw [HNB.out]; exact q1)]
    have HO := Lib.hid HV.out.ones
    have hend := ref_end HV.out HY.out HB1.out (Nat.le_succ _)
    obtain ⟨x0, x1, x2⟩ := three_cells HX.out
    go_wp2_with (first | refine wpList_load_row rfl 35 _ rfl w.heap.size rfl 35 #[.string S, .slice A2 nk c2, .slice A3 nd c3] (0, 0) _ HX.out Try.underlying35 rfl (by kernel_rfl) ?_ | refine wpList_store_row rfl 35 _ _ rfl (w.heap.size + 1) #[.string S, .slice A2 nk c2, .slice A3 nd c3] rfl rfl 35 _ HY.out (by kernel_rfl) rfl HO.out ?_)
    refine ret_three (g := w.heap.size + 1) rfl rfl hend.2.2 Try.underlying35 rfl (by kernel_rfl) rfl ?_
    rw [HRES.out]
    exact ⟨_, rfl, hend.1, hend.2.1⟩
  obtain ⟨z, rfl⟩ : ∃ z : Nat, n = (z : Int) := ⟨n.toNat, by omega⟩
  have hz4 : 1 ≤ z ∧ z ≤ nb := by omega
  have hw := whole_le z
  have hwn : wholeN z = (z + 7) / 8 * 8 := rfl
  obtain ⟨hwl1, hwl2, hwl3⟩ := hw
  obtain ⟨m0, hm0⟩ : ∃ m0, wholeN z = m0 := ⟨_, rfl⟩
  rw [hm0] at hwl1 hwl2 hwl3
  have HAO : Hid (allocO B.length L (z : Int) = match roomL nb m0 0 0 L with | none => (L, 0, 5) | some (a, i) => (L.take i ++ (a, m0) :: L.drop i, a, 0)) := by
    show _ = _
    unfold allocO
    rw [if_neg (by omega), if_neg (by rw [HNB.out]; omega), Int.toNat_natCast, hm0, HNB.out]
    rfl
  clear hwn hm0
  obtain ⟨x0, x1, x2⟩ := three_cells HX.out
  go_wp2
  clear x0 x1 x2
  go_loopw [1] (fun t1 wr => ∃ y : Nat, z ≤ y ∧ y ≤ m0 ∧ t1 = .int .i64 (y : Int) ∧ w1 = wr) (fun t1 _ => m0 - (intOf t1).toNat)
  case atStart => exact ⟨z, by omega, by omega, rfl, rfl⟩
  case round =>
    obtain ⟨y, hy1, hy2, rfl, rfl⟩ := hrel
    by_cases hym : y % 8 = 0
    · obtain rfl : y = m0 := by omega
      have hyi : (y : Int) % 8 = 0 := by omega
      go_wp2
      clear hyi
      go_loopw [7] (fun t7 wr => ∃ a : Nat, t7 = .int .i64 (a : Int) ∧ a % 8 = 0 ∧ a ≤ nb + 8 ∧ Hid (∀ j, j < a → j % 8 = 0 → roomB nb L j y = false) ∧ Hid (Below w1.heap.size w1 wr)) (fun t7 _ => nb + 16 - (intOf t7).toNat)
      case atStart => exact ⟨0, rfl, rfl, by omega, Lib.hid (fun j hj => by omega), Lib.hid (Below.refl _ _)⟩
      case round =>
        obtain ⟨a, rfl, ha8, hale, HNO, HBEL⟩ := hrel
        have HX2 := Lib.hid (old_below HX.out HBEL.out (row_lt HX.out))
        have HY2 := Lib.hid (old_below HY.out HBEL.out (row_lt HY.out))
        have HV2 := Lib.hid (HV.out.below HBEL.out)
        have HB2 := Lib.hid (HB1.out.trans (HBEL.out.mono HB1.out.size))
        obtain ⟨x0, x1, x2⟩ := three_cells HX2.out
        by_cases hlt : a < nb
        · have hroom := refroom_any a y wr HV2.out.shut HR.out (by omega) (by omega)
          rw [HNB.out] at hroom
          have HROOM := Lib.hid hroom
          clear hroom
          go_wp2_with (refine wpList_load_row rfl 35 _ rfl w.heap.size rfl 35 #[.string S, .slice A2 nk c2, .slice A3 nd c3] (0, 0) _ HX2.out Try.underlying35 rfl (by kernel_rfl) ?_)
          clear x0 x1 x2
          refine HROOM.out.mono ?_
          rintro e w3 ⟨rfl, hb3⟩
          have HBE3 := Lib.hid (HBEL.out.trans (hb3.mono HBEL.out.size))
          clear hb3 HROOM
          cases hq : roomB nb L a y
          · have HN2 : Hid (∀ j, j < a + 8 → j % 8 = 0 → roomB nb L j y = false) := fun j hj hj8 => by
              by_cases hja : j < a
              · exact HNO.out j hja hj8
              · obtain rfl : j = a := by omega
                exact hq
            clear hq
            go_wp2
            go_roundw
            case rel => exact ⟨a + 8, by go_num, by omega, by omega, HN2, HBE3⟩
            case measure => simp [intOf]; omega
          · obtain ⟨i, hi, hile, hbef, hbeh⟩ := room_here (by rw [← HNB.out]; exact HR.out.blk) (by omega) hwl3 HNO.out hq
            have HAO2 := HAO.out
            rw [hi] at HAO2
            have HRES := Lib.hid HAO2
            have HBEF := Lib.hid hbef
            have HBEH := Lib.hid hbeh
            rw [HNK.out] at hile
            clear hi HAO2 hbef hbeh hq HX2 HY2 HV2 HB2 HBEL HNO
            have HS3 := Lib.hid HBE3.out.size
            go_wp2
            go_loopw [10, 8, 9] (fun t10 t8 t9 wr => ∃ (k : Nat) (x8 : Value), k ≤ nk ∧ t10 = .int .i64 (k : Int) ∧ x8 = t8 ∧ t9 = .bool (decide (i < k)) ∧ Hid (wr.ownsRow w1.heap.size 76 2 x8 (insL L i a y k).length (rbs (insL L i a y k))) ∧ Hid (Below w1.heap.size w1 wr)) (fun t10 _ _ _ => nk - (intOf t10).toNat)
            case atStart => exact ⟨0, _, Nat.zero_le _, rfl, rfl, rfl, Lib.hid (by rw [insL_zero]; exact World.ownsRow_nil _ _ _ _), HBE3⟩
            case round =>
              obtain ⟨k, x8, hk, rfl, rfl, rfl, HOW0, HBW⟩ := hrel
              have HXR := Lib.hid (old_below HX.out HBW.out (row_lt HX.out))
              have HYR := Lib.hid (old_below HY.out HBW.out (row_lt HY.out))
              have HVR := Lib.hid (HV.out.below HBW.out)
              have HSZ := Lib.hid HBW.out.size
              obtain ⟨x0, x1, x2⟩ := three_cells HXR.out
              have hjl := insL_len (a := a) (m := y) (by rw [HNK.out]; exact hk : k ≤ L.length) (by rw [HNK.out]; exact hile)
              obtain ⟨j, hj⟩ : ∃ j, (insL L i a y k).length = j := ⟨_, rfl⟩
              rw [hj] at hjl
              have how := HOW0.out
              rw [hj] at how
              have HJ := Lib.hid hj
              have HOW := Lib.hid how
              clear how hj
              by_cases hlt2 : k < nk
              · obtain ⟨⟨f, s⟩, hbk⟩ : ∃ p, L[k]? = some p := ⟨_, List.getElem?_eq_getElem (by rw [HNK.out]; exact hlt2)⟩
                have hbd := blk_bound HR.out.blk _ (List.mem_of_getElem? hbk)
                rw [HNB.out] at hbd
                simp only at hbd
                have HBK := Lib.hid hbk
                clear hbk
                rcases Nat.lt_trichotomy k i with hki | hki | hki
                · have hfa := HBEF.out k _ hki HBK.out
                  simp only at hfa
                  have hd : decide (i < k) = false := decide_eq_false (by omega)
                  have hfi : (f : Int) ≤ (a : Int) := by omega
                  have hrow := HVR.out.2.1
                  rw [HNK.out] at hrow
                  have HROW := Lib.hid hrow
                  obtain ⟨g, hA2, hgc, y0, y1⟩ := rb_cells hrow HBK.out HNK.out
                  subst hA2
                  have HEL := Lib.hid (rb_elem hrow HBK.out)
                  clear hrow
                  rw [hd]
                  go_wp2_with (first | refine wpList_load_at rfl 76 _ rfl ⟨g, k * 2, none⟩ rfl [.int .i64 (f : Int), .int .i64 ((f : Int) + (s : Int))] _ HEL.out Try.underlying76 rfl (by kernel_rfl) ?_ | refine wpList_build_one rfl 33 76 _ rfl #[.int .i64 (f : Int), .int .i64 ((f : Int) + (s : Int))] rfl Try.underlying33 2 (by decide) (by decide) (by kernel_rfl) rfl ?_ | (at_builtin; refine wpList_append_elem rfl _ _ 33 rfl w1.heap.size 76 i0 _ 2 16 Try.underlying33 hi0 hz0 hz1 hz2 rfl (by decide) x8 j (rbs (insL L i a y k)) rfl (HOW.out.alloc _) wr.heap.size 1 #[.int .i64 (f : Int), .int .i64 ((f : Int) + (s : Int))] 76 (0, 0) rfl (heap_alloc_new wr _) rfl (by intro u hu; simp at hu; rcases hu with rfl | rfl <;> rfl) (by unfold maxLen; omega) (by omega) (by have := HSZ.out; simp; omega) ?_; intro v6 w6 hown6 hgrow6 _; have HOW_w6 := Lib.hid hown6; have HGW_w6 := Lib.hid hgrow6; clear hown6 hgrow6))
                  have HB6 : Hid (Below w1.heap.size w1 w6) := (HBW.out.alloc HBW.out.size _).grown HGW_w6.out (by have := HSZ.out; simp; omega) fun g hg => (HOW.out.lt g hg).1
                  have HO6 : Hid (w6.ownsRow w1.heap.size 76 2 v6 (insL L i a y (k + 1)).length (rbs (insL L i a y (k + 1)))) := by
                    show World.ownsRow _ _ _ _ _ _ _
                    rw [insL_ahead hki HBK.out, rbs_snoc, List.length_append, HJ.out]
                    exact HOW_w6.out
                  have hdd : decide (i < k + 1) = false := decide_eq_false (by omega)
                  go_wp2
                  go_roundw
                  case rel => exact ⟨k + 1, _, by omega, by go_num, rfl, by rw [hdd], HO6, HB6⟩
                  case measure => simp [intOf]; omega
                · subst hki
                  have hfa := HBEH.out k _ (Nat.le_refl _) HBK.out
                  simp only at hfa
                  have hd : decide (k < k) = false := decide_eq_false (by omega)
                  have hfi : (a : Int) < (f : Int) := by omega
                  have hrow := HVR.out.2.1
                  rw [HNK.out] at hrow
                  have HROW := Lib.hid hrow
                  obtain ⟨g, hA2, hgc, y0, y1⟩ := rb_cells hrow HBK.out HNK.out
                  subst hA2
                  have HEL := Lib.hid (rb_elem hrow HBK.out)
                  clear hrow
                  rw [hd]
                  go_wp2_with (first | refine wpList_build_one rfl 33 76 _ rfl #[.int .i64 (a : Int), .int .i64 ((a : Int) + (y : Int))] rfl Try.underlying33 2 (by decide) (by decide) (by kernel_rfl) rfl ?_ | (at_builtin; refine wpList_append_elem rfl _ _ 33 rfl w1.heap.size 76 i0 _ 2 16 Try.underlying33 hi0 hz0 hz1 hz2 rfl (by decide) x8 j (rbs (insL L k a y k)) rfl (HOW.out.alloc _) wr.heap.size 1 #[.int .i64 (a : Int), .int .i64 ((a : Int) + (y : Int))] 76 (0, 0) rfl (heap_alloc_new wr _) rfl (by intro u hu; simp at hu; rcases hu with rfl | rfl <;> rfl) (by unfold maxLen; omega) (by omega) (by have := HSZ.out; simp; omega) ?_; intro v5 w5 hown6 hgrow6 _; have HOW_w5 := Lib.hid hown6; have HGW_w5 := Lib.hid hgrow6; clear hown6 hgrow6; have HB5 : Hid (Below w1.heap.size w1 w5) := (HBW.out.alloc HBW.out.size _).grown HGW_w5.out (by have := HSZ.out; simp; omega) fun g hg => (HOW.out.lt g hg).1; have HSZ5 := Lib.hid HB5.out.size; have hrow5 := (HV.out.below HB5.out).2.1; rw [HNK.out] at hrow5; have HEL5 := Lib.hid (rb_elem hrow5 HBK.out); clear hrow5; obtain ⟨q0, q1, q2⟩ := three_cells (old_below HX.out HB5.out (row_lt HX.out))) | refine wpList_load_at rfl 76 _ rfl ⟨g, k * 2, none⟩ rfl [.int .i64 (f : Int), .int .i64 ((f : Int) + (s : Int))] _ HEL5.out Try.underlying76 rfl (by kernel_rfl) ?_ | refine wpList_build_one rfl 33 76 _ rfl #[.int .i64 (f : Int), .int .i64 ((f : Int) + (s : Int))] rfl Try.underlying33 2 (by decide) (by decide) (by kernel_rfl) rfl ?_ | (at_builtin; refine wpList_append_elem rfl _ _ 33 rfl w1.heap.size 76 i0 _ 2 16 Try.underlying33 hi0 hz0 hz1 hz2 rfl (by decide) v5 (j + 1) _ rfl (HOW_w5.out.alloc _) w5.heap.size 1 #[.int .i64 (f : Int), .int .i64 ((f : Int) + (s : Int))] 76 (0, 0) rfl (heap_alloc_new w5 _) rfl (by intro u hu; simp at hu; rcases hu with rfl | rfl <;> rfl) (by unfold maxLen; omega) (by omega) (by have := HSZ5.out; simp; omega) ?_; intro v6 w6 hown6 hgrow6 _; have HOW_w6 := Lib.hid hown6; have HGW_w6 := Lib.hid hgrow6; clear hown6 hgrow6))
                  have HB6 : Hid (Below w1.heap.size w1 w6) := (HB5.out.alloc HB5.out.size _).grown HGW_w6.out (by have := HB5.out.size; simp; omega) fun g hg => (HOW_w5.out.lt g hg).1
                  have HO6 : Hid (w6.ownsRow w1.heap.size 76 2 v6 (insL L k a y (k + 1)).length (rbs (insL L k a y (k + 1)))) := by
                    show World.ownsRow _ _ _ _ _ _ _
                    rw [insL_at HBK.out, rbs_snoc, rbs_snoc, List.length_append, List.length_append, HJ.out]
                    exact HOW_w6.out
                  have hdd : decide (k < k + 1) = true := decide_eq_true (by omega)
                  clear q0 q1 q2
                  go_wp2
                  go_roundw
                  case rel => exact ⟨k + 1, _, by omega, by go_num, rfl, by rw [hdd], HO6, HB6⟩
                  case measure => simp [intOf]; omega
                · have hd : decide (i < k) = true := decide_eq_true hki
                  have hrow := HVR.out.2.1
                  rw [HNK.out] at hrow
                  have HROW := Lib.hid hrow
                  obtain ⟨g, hA2, hgc, y0, y1⟩ := rb_cells hrow HBK.out HNK.out
                  subst hA2
                  have HEL := Lib.hid (rb_elem hrow HBK.out)
                  clear hrow
                  rw [hd]
                  go_upto_region 19 with (fail)
                  go_wp2_with (first | refine wpList_load_at rfl 76 _ rfl ⟨g, k * 2, none⟩ rfl [.int .i64 (f : Int), .int .i64 ((f : Int) + (s : Int))] _ HEL.out Try.underlying76 rfl (by kernel_rfl) ?_ | refine wpList_build_one rfl 33 76 _ rfl #[.int .i64 (f : Int), .int .i64 ((f : Int) + (s : Int))] rfl Try.underlying33 2 (by decide) (by decide) (by kernel_rfl) rfl ?_ | (at_builtin; refine wpList_append_elem rfl _ _ 33 rfl w1.heap.size 76 i0 _ 2 16 Try.underlying33 hi0 hz0 hz1 hz2 rfl (by decide) x8 j (rbs (insL L i a y k)) rfl (HOW.out.alloc _) wr.heap.size 1 #[.int .i64 (f : Int), .int .i64 ((f : Int) + (s : Int))] 76 (0, 0) rfl (heap_alloc_new wr _) rfl (by intro u hu; simp at hu; rcases hu with rfl | rfl <;> rfl) (by unfold maxLen; omega) (by omega) (by have := HSZ.out; simp; omega) ?_; intro v6 w6 hown6 hgrow6 _; have HOW_w6 := Lib.hid hown6; have HGW_w6 := Lib.hid hgrow6; clear hown6 hgrow6))
                  have HB6 : Hid (Below w1.heap.size w1 w6) := (HBW.out.alloc HBW.out.size _).grown HGW_w6.out (by have := HSZ.out; simp; omega) fun g hg => (HOW.out.lt g hg).1
                  have HO6 : Hid (w6.ownsRow w1.heap.size 76 2 v6 (insL L i a y (k + 1)).length (rbs (insL L i a y (k + 1)))) := by
                    show World.ownsRow _ _ _ _ _ _ _
                    rw [insL_behind hki HBK.out, rbs_snoc, List.length_append, HJ.out]
                    exact HOW_w6.out
                  have hdd : decide (i < k + 1) = true := decide_eq_true (by omega)
                  go_wp2
                  go_roundw
                  case rel => exact ⟨k + 1, _, by omega, by go_num, rfl, by rw [hdd], HO6, HB6⟩
                  case measure => simp [intOf]; omega
              · obtain rfl : k = nk := by omega
                by_cases hin : i < k
                · have hd : decide (i < k) = true := decide_eq_true hin
                  obtain ⟨J, hJ⟩ : ∃ J, (L.take i ++ (a, y) :: L.drop i).length = J := ⟨_, rfl⟩
                  have HLEN := Lib.hid hJ
                  have hie := insL_end (L := L) (i := i) (a := a) (m := y) (by rw [HNK.out]; exact hin)
                  rw [HNK.out] at hie
                  have hoz := HOW0.out
                  rw [hie, hJ] at hoz
                  obtain ⟨A8, c8, rfl, -⟩ := ownk_form hoz
                  have HOZ := Lib.hid hoz
                  clear hJ hie hoz x0 x1 x2
                  have hrowz := (HV.out.below HBW.out); have HVZ := Lib.hid hrowz; have HXZ := Lib.hid (old_below HX.out HBW.out (row_lt HX.out)); have HYZ := Lib.hid (old_below HY.out HBW.out (row_lt HY.out)); clear hrowz; obtain ⟨q0, q1, q2⟩ := three_cells HXZ.out; have hfz := frozen_of_row wr w.heap.size 1 _ _ HXZ.out; have g1 := heap_setCell_same wr w.heap.size 1 _ _ (.slice A8 J c8) HXZ.out; have g2 : (wr.setCell ⟨w.heap.size, 1, none⟩ (.slice A8 J c8)).heap[w.heap.size + 1]? = _ := (heap_setCell_other _ _ _ _ (by simp)).trans HYZ.out; have k2 := ownk_other HOZ.out HXZ.out (by decide) fun j hj => heap_setCell_other _ ⟨w.heap.size, 1, none⟩ j (.slice A8 J c8) hj; have k3 := ownk_other HVZ.out.2.2 HXZ.out (by decide) fun j hj => heap_setCell_other _ ⟨w.heap.size, 1, none⟩ j (.slice A8 J c8) hj; have k4 : Below w.heap.size w (wr.setCell ⟨w.heap.size, 1, none⟩ (.slice A8 J c8)) := (HB1.out.trans (HBW.out.mono HB1.out.size)).setCell (Nat.le_refl _) _; obtain ⟨w7, hw7⟩ : ∃ w7, wr.setCell ⟨w.heap.size, 1, none⟩ (.slice A8 J c8) = w7 := ⟨_, rfl⟩; rw [hw7] at g1 g2 k2 k3 k4; have HW7 := Lib.hid hw7; have HX7 := Lib.hid g1; have HY7 := Lib.hid g2; have HV7 : Hid (RfV B (L.take i ++ (a, y) :: L.drop i) D w7 (.string S) (.slice A8 J c8) (.slice A3 nd c3)) := ⟨by rw [HS.out], by rw [HLEN.out]; exact ownk_base k2 (Nat.zero_le _), k3⟩; have HO7 := Lib.hid HV7.out.ones; have hend := ref_end HV7.out HY7.out k4 (Nat.le_succ _); clear g1 g2 k2 k3 k4 hw7
                  rw [hd]
                  go_wp2_with (first | (rw [HW7.out]; refine wpList_load_row rfl 35 _ rfl w.heap.size rfl 35 #[.string S, .slice A8 J c8, .slice A3 nd c3] (0, 0) _ HX7.out Try.underlying35 rfl (by kernel_rfl) ?_) | refine wpList_store_row rfl 35 _ _ rfl (w.heap.size + 1) #[.string S, .slice A8 J c8, .slice A3 nd c3] rfl rfl 35 _ HY7.out (by kernel_rfl) rfl HO7.out ?_)
                  refine ret_three (g := w.heap.size + 1) rfl rfl hend.2.2 Try.underlying35 rfl (by kernel_rfl) rfl ?_
                  rw [HRES.out]
                  exact ⟨_, rfl, hend.1, hend.2.1⟩
                · obtain rfl : i = k := by omega
                  have hd : decide (i < i) = false := decide_eq_false (by omega)
                  rw [hd]
                  go_wp2_with (first | refine wpList_build_one rfl 33 76 _ rfl #[.int .i64 (a : Int), .int .i64 ((a : Int) + (y : Int))] rfl Try.underlying33 2 (by decide) (by decide) (by kernel_rfl) rfl ?_ | (at_builtin; refine wpList_append_elem rfl _ _ 33 rfl w1.heap.size 76 i0 _ 2 16 Try.underlying33 hi0 hz0 hz1 hz2 rfl (by decide) x8 j (rbs (insL L i a y i)) rfl (HOW.out.alloc _) wr.heap.size 1 #[.int .i64 (a : Int), .int .i64 ((a : Int) + (y : Int))] 76 (0, 0) rfl (heap_alloc_new wr _) rfl (by intro u hu; simp at hu; rcases hu with rfl | rfl <;> rfl) (by unfold maxLen; omega) (by omega) (by have := HSZ.out; simp; omega) ?_; intro v5 w5 hown6 hgrow6 _; have HOW_w5 := Lib.hid hown6; have HGW_w5 := Lib.hid hgrow6; clear hown6 hgrow6; have HB5 : Hid (Below w1.heap.size w1 w5) := (HBW.out.alloc HBW.out.size _).grown HGW_w5.out (by have := HSZ.out; simp; omega) fun g hg => (HOW.out.lt g hg).1; obtain ⟨J, hJ⟩ : ∃ J, (L.take i ++ (a, y) :: L.drop i).length = J := ⟨_, rfl⟩; have HLEN := Lib.hid hJ; have hil := insL_last (L := L) (a := a) (m := y); rw [HNK.out] at hil; have hoz := HOW_w5.out; rw [show rbs (insL L i a y i) ++ (#[.int .i64 (a : Int), .int .i64 ((a : Int) + (y : Int))] : Array Value).toList = rbs (L.take i ++ (a, y) :: L.drop i) from by rw [← hil, rbs_snoc]; rfl, show j + 1 = J from by rw [← hJ, ← hil, List.length_append, HJ.out]; rfl] at hoz; obtain ⟨A8, c8, rfl, -⟩ := ownk_form hoz; have HOZ := Lib.hid hoz; clear hJ hil hoz; have hrowz := (HV.out.below HB5.out); have HVZ := Lib.hid hrowz; have HXZ := Lib.hid (old_below HX.out HB5.out (row_lt HX.out)); have HYZ := Lib.hid (old_below HY.out HB5.out (row_lt HY.out)); clear hrowz; obtain ⟨q0, q1, q2⟩ := three_cells HXZ.out; have hfz := frozen_of_row w5 w.heap.size 1 _ _ HXZ.out; have g1 := heap_setCell_same w5 w.heap.size 1 _ _ (.slice A8 J c8) HXZ.out; have g2 : (w5.setCell ⟨w.heap.size, 1, none⟩ (.slice A8 J c8)).heap[w.heap.size + 1]? = _ := (heap_setCell_other _ _ _ _ (by simp)).trans HYZ.out; have k2 := ownk_other HOZ.out HXZ.out (by decide) fun j hj => heap_setCell_other _ ⟨w.heap.size, 1, none⟩ j (.slice A8 J c8) hj; have k3 := ownk_other HVZ.out.2.2 HXZ.out (by decide) fun j hj => heap_setCell_other _ ⟨w.heap.size, 1, none⟩ j (.slice A8 J c8) hj; have k4 : Below w.heap.size w (w5.setCell ⟨w.heap.size, 1, none⟩ (.slice A8 J c8)) := (HB1.out.trans (HB5.out.mono HB1.out.size)).setCell (Nat.le_refl _) _; obtain ⟨w7, hw7⟩ : ∃ w7, w5.setCell ⟨w.heap.size, 1, none⟩ (.slice A8 J c8) = w7 := ⟨_, rfl⟩; rw [hw7] at g1 g2 k2 k3 k4; have HW7 := Lib.hid hw7; have HX7 := Lib.hid g1; have HY7 := Lib.hid g2; have HV7 : Hid (RfV B (L.take i ++ (a, y) :: L.drop i) D w7 (.string S) (.slice A8 J c8) (.slice A3 nd c3)) := ⟨by rw [HS.out], by rw [HLEN.out]; exact ownk_base k2 (Nat.zero_le _), k3⟩; have HO7 := Lib.hid HV7.out.ones; have hend := ref_end HV7.out HY7.out k4 (Nat.le_succ _); clear g1 g2 k2 k3 k4 hw7) | (rw [HW7.out]; refine wpList_load_row rfl 35 _ rfl w.heap.size rfl 35 #[.string S, .slice A8 J c8, .slice A3 nd c3] (0, 0) _ HX7.out Try.underlying35 rfl (by kernel_rfl) ?_) | refine wpList_store_row rfl 35 _ _ rfl (w.heap.size + 1) #[.string S, .slice A8 J c8, .slice A3 nd c3] rfl rfl 35 _ HY7.out (by kernel_rfl) rfl HO7.out ?_)
                  refine ret_three (g := w.heap.size + 1) rfl rfl hend.2.2 Try.underlying35 rfl (by kernel_rfl) rfl ?_
                  rw [HRES.out]
                  exact ⟨_, rfl, hend.1, hend.2.1⟩
        · have hrn := room_nowhere (by rw [← HNB.out]; exact HR.out.blk) (by omega) hwl3 HNO.out (by omega : nb ≤ a)
          have HAO2 := HAO.out
          rw [hrn] at HAO2
          have HRES := Lib.hid HAO2
          have HO := Lib.hid HV2.out.ones
          have hend := ref_end HV2.out HY2.out HB2.out (Nat.le_succ _)
          clear hrn HAO2
          go_wp2_with (first | refine wpList_load_row rfl 35 _ rfl w.heap.size rfl 35 #[.string S, .slice A2 nk c2, .slice A3 nd c3] (0, 0) _ HX2.out Try.underlying35 rfl (by kernel_rfl) ?_ | refine wpList_store_row rfl 35 _ _ rfl (w.heap.size + 1) #[.string S, .slice A2 nk c2, .slice A3 nd c3] rfl rfl 35 _ HY2.out (by kernel_rfl) rfl HO.out ?_)
          refine ret_three (g := w.heap.size + 1) rfl rfl hend.2.2 Try.underlying35 rfl (by kernel_rfl) rfl ?_
          rw [HRES.out]
          exact ⟨_, rfl, hend.1, hend.2.1⟩
    · have hyi : ¬ (y : Int) % 8 = 0 := by omega
      go_wp2
      go_roundw
      case rel => exact ⟨y + 1, by omega, by omega, by go_num, trivial⟩
      case measure => simp [intOf]; omega
end Go.Proofs.Ytagajijjcjfopaa
