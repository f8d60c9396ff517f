/-
  The document's Free. No condition.
-/
import Derived.Test.YtagajijjcjfopaaRam
import Derived.Test.YtagajijjcjfopaaRt
import Derived.Test.YtagajijjcjfopaaNewH
namespace Go.Proofs.Ytagajijjcjfopaa
open Go.RowKit

theorem store_cell {P : Program} {w : World} {g i : Nat} {cur : Array Value} {t : TypeId} {v : Value} (hg : w.heap[g]? = some (.cells cur t (0, 0))) (hi : i < cur.size) (hv : v.oneCell' = true) :
    (store ⟨g, i, none⟩ v).run P w = .ok () (w.setCell ⟨g, i, none⟩ v) := by
  have hc : w.cell? ⟨g, i, none⟩ = some cur[i] := by rw [cell_of_row _ _ _ _ _ _ hg]; simp [hi]
  have hf := frozen_of_row w g i cur t hg
  rw [run_store _ _ _ _ _ hv]
  simp [stored, hc, hf]
theorem stores_rf {B : List UInt8} {L : List Bk} {D : List Bool} {w : World} {g : Nat} {t : TypeId} {u0 u1 u2 v0 v1 v2 : Value} (hv : RfV B L D w v0 v1 v2) (h : w.heap[g]? = some (.cells #[u0, u1, u2] t (0, 0))) :
    (store ⟨g, 0, none⟩ v0).run Try.prog w = .ok () (w.setCell ⟨g, 0, none⟩ v0) ∧ (store ⟨g, 1, none⟩ v1).run Try.prog (w.setCell ⟨g, 0, none⟩ v0) = .ok () ((w.setCell ⟨g, 0, none⟩ v0).setCell ⟨g, 1, none⟩ v1) ∧
      (store ⟨g, 2, none⟩ v2).run Try.prog ((w.setCell ⟨g, 0, none⟩ v0).setCell ⟨g, 1, none⟩ v1) = .ok () (((w.setCell ⟨g, 0, none⟩ v0).setCell ⟨g, 1, none⟩ v1).setCell ⟨g, 2, none⟩ v2) := by
  have h0 : v0.oneCell' = true := by rw [hv.1]; rfl
  have r0 := heap_setCell_same _ _ 0 _ _ v0 h
  have r1 := heap_setCell_same _ _ 1 _ _ v1 r0
  exact ⟨store_cell h (by simp) h0, store_cell r0 (by simp) (ownk_one hv.2.1), store_cell r1 (by simp) (ownk_one hv.2.2)⟩
theorem zero_str (w : World) (b s : Nat) (h : w.heap[b]? = some (.cells (madeCells #[.int .u8 0] s) 5 (0, 0))) (hs : s ≤ 100000) :
    (convert 25 9 (.slice (some ⟨b, 0, none⟩) s s)).run Try.prog w = .ok (.string ⟨(List.replicate s (0 : UInt8)).toArray⟩) w := by
  have ho := made_own w b 0 s (.int .u8 0) 5 h (Nat.zero_le _) (by unfold maxLen; omega)
  have := run_text (P := Try.prog) w 25 9 5 (l := List.replicate s (0 : UInt8)) s Try.underlying25 Try.underlying5 Try.underlying9 (by rw [show cells (List.replicate s 0) = List.replicate s (.int .u8 0) from by simp [cells]]; exact ownk_rd ho)
  rwa [List.length_replicate] at this
set_option maxRecDepth 100000 in
set_option maxHeartbeats 8000000 in
theorem reffree_any {B : List UInt8} {L : List Bk} {D : List Bool} {v : Value} (x : Int) (w : World) (hv : Rf B L D v w) (hR : RightH B L D) (hx : I64 x) :
    Calls Try.prog 26 #[v, .int .i64 x] w fun e w' => ∃ v', e = .returned (.tuple #[v', .int .i64 (freeO B L D x).2.2.2]) ∧ Rf (freeO B L D x).1 (freeO B L D x).2.1 (freeO B L D x).2.2.1 v' w' ∧ Below w.heap.size w w' := by
  obtain ⟨i0, hi0, hz0, hz1, hz2⟩ := info_parts info_rb
  obtain ⟨nb, hnb⟩ : ∃ k, B.length = k := ⟨_, rfl⟩
  obtain ⟨nk, hnk⟩ : ∃ k, L.length = k := ⟨_, rfl⟩
  obtain ⟨nd, hnd⟩ : ∃ k, D.length = k := ⟨_, rfl⟩
  obtain ⟨v1, v2, v3, rfl, hv⟩ := hv
  obtain ⟨A2, c2, A3, c3, rfl, rfl, rfl⟩ := hv.forms hnk hnd
  obtain ⟨S, hS⟩ : ∃ S : ByteArray, ⟨B.toArray⟩ = S := ⟨_, rfl⟩
  have hSz : S.size = nb := by rw [← hS, ← hnb]; rfl
  have hnd64 : nd ≤ 64 := by rw [← hnd]; exact hR.most
  have hnb64 : nb = 64 * nd := by rw [← hnb, ← hnd]; exact hR.len
  have hmy : nk ≤ 4096 := by have := hR.many; have := hR.bytes; omega
  rw [hS] at hv ⊢
  have HS := Lib.hid hS
  have HNB := Lib.hid hnb
  have HNK := Lib.hid hnk
  have HND := Lib.hid hnd
  have HR := Lib.hid hR
  go_enter Try.func26, Try.ntmps26
  go_upto_region 1 with (fail)
  obtain ⟨w1, hw1⟩ : ∃ w1, (w.alloc (.cells #[.string S, .slice A2 nk c2, .slice A3 nd c3] 35)).alloc (.cells #[.string ⟨#[]⟩, .slice none 0 0, .slice none 0 0] 35) = w1 := ⟨_, rfl⟩
  obtain ⟨hb1, hx1, hy1, hv1⟩ := ref_start hv hw1
  have HB1 := Lib.hid hb1
  have HX := Lib.hid hx1
  have HY := Lib.hid hy1
  have HV := Lib.hid hv1
  rw [hw1]
  clear hb1 hx1 hy1 hv1 hw1 hv hnb hnk hnd hR hS
  go_wp2
  go_loopw [6] (fun t6 wr => ∃ k : Nat, k ≤ nk ∧ t6 = .int .i64 (k : Int) ∧ Hid (∀ j b, j < k → L[j]? = some b → atB x b = false) ∧ w1 = wr) (fun t6 _ => nk - (intOf t6).toNat)
  case atStart => exact ⟨0, Nat.zero_le _, rfl, Lib.hid (fun j b hj => by omega), rfl⟩
  case round =>
    obtain ⟨k, hk, rfl, HNO, rfl⟩ := hrel
    obtain ⟨x0, x1, x2⟩ := three_cells HX.out
    by_cases hlt : k < nk
    · obtain ⟨⟨f, s⟩, hbk⟩ : ∃ p, L[k]? = some p := ⟨_, List.getElem?_eq_getElem (by rw [HNK.out]; exact hlt)⟩
      have hbd := blk_bound HR.out.blk _ (List.mem_of_getElem? hbk)
      rw [HNB.out] at hbd
      simp only at hbd
      have hrow := HV.out.2.1
      rw [HNK.out] at hrow
      obtain ⟨g, hA2, hgc, y0, y1⟩ := rb_cells hrow hbk HNK.out
      subst hA2
      have HEL := Lib.hid (rb_elem hrow hbk)
      have HROW := Lib.hid hrow
      have HBK := Lib.hid hbk
      clear hrow hbk
      simp only at y0 y1
      by_cases q : (f : Int) = x
      · have hix : L.findIdx? (atB x) = some k := idx_some HBK.out (by simp [atB, q]) HNO.out
        have HRES : Hid (freeO B L D x = (putB B f (List.replicate s 0), L.eraseIdx k, markD D f s, 0)) := by
          show _ = _
          unfold freeO
          simp only [hix, HBK.out]
        subst q
        clear hix
        have HXb := Lib.hid (old_alloc HX.out (.cells #[.int .i64 (f : Int), .int .i64 ((f : Int) + (s : Int))] 76))
        have HYb := Lib.hid (old_alloc HY.out (.cells #[.int .i64 (f : Int), .int .i64 ((f : Int) + (s : Int))] 76))
        have HNb := Lib.hid (heap_alloc_new w1 (.cells #[.int .i64 (f : Int), .int .i64 ((f : Int) + (s : Int))] 76))
        have HVb := Lib.hid (HV.out.alloc (.cells #[.int .i64 (f : Int), .int .i64 ((f : Int) + (s : Int))] 76))
        have HBb : Hid (Below w.heap.size w (w1.alloc (.cells #[.int .i64 (f : Int), .int .i64 ((f : Int) + (s : Int))] 76))) := HB1.out.alloc HB1.out.size _
        go_upto_region 6 with (first | refine wpList_load_at rfl 76 _ rfl ⟨g, k * 2, none⟩ rfl [.int .i64 (f : Int), .int .i64 ((f : Int) + (s : Int))] _ HEL.out Try.underlying76 rfl (by kernel_rfl) ?_)
        generalize w1.alloc (.cells #[.int .i64 (f : Int), .int .i64 ((f : Int) + (s : Int))] 76) = w2 at HXb HYb HNb HVb HBb ⊢
        have HLTN : Hid (w.heap.size < w1.heap.size) := row_lt HX.out
        generalize w1.heap.size = N2 at HNb HLTN ⊢
        clear x0 x1 x2 y0 y1 HROW HEL
        have HXe := Lib.hid (old_alloc HXb.out (.cells #[] 76))
        obtain ⟨e0, e1, e2⟩ := three_cells HXe.out
        have HEW := Lib.hid (own_empty w2 76 2)
        have hrow := (HVb.out.alloc (.cells #[] 76)).2.1
        rw [HNK.out] at hrow
        have hrd := (ownk_rd hrow).take (k * 2)
        rw [rbs_take] at hrd
        have HRD := Lib.hid hrd
        have hltN : w.heap.size < N2 := HLTN.out
        have HLT : Hid ((L.take k).length = k) := by show _ = _; rw [List.length_take, HNK.out]; omega
        have HLD : Hid ((L.drop (k + 1)).length = nk - (k + 1)) := by show _ = _; rw [List.length_drop, HNK.out]
        clear hrow hrd
        have HDR : Hid (rbs (L.take k) ++ rbs (L.drop (k + 1)) = rbs (L.eraseIdx k)) := by show _ = _; rw [← rbs_append, List.eraseIdx_eq_take_drop_succ]
        obtain ⟨J, hJ⟩ : ∃ J, (L.eraseIdx k).length = J := ⟨_, rfl⟩
        have HLEN := Lib.hid hJ
        have hJ2 : J + 1 = nk := by
          rw [← hJ, List.length_eraseIdx, if_pos (by rw [HNK.out]; exact hlt), HNK.out]
          omega
        clear hJ
        by_cases hck : c2 = k + 1
        · subst hck
          obtain rfl : J = k := by omega
          have HNIL : Hid (rbs (L.drop (J + 1)) = []) := by
            show _ = _
            rw [List.drop_eq_nil_of_le (by rw [HNK.out]; omega)]
            rfl
          subst hJ2
          go_wp2_with (first | (at_builtin; refine wpList_append_rdk rfl _ _ 33 rfl w2.heap.size 76 i0 _ 2 16 Try.underlying33 hi0 hz0 hz1 hz2 rfl (by decide) (.slice (some ⟨w2.heap.size, 0, none⟩) 0 0) 0 [] rfl HEW.out (some ⟨g, 0, none⟩) J (J + 1) (rbs (L.take J)) rfl (fun h => by cases h) (by rw [rbs_length, HLT.out]) HRD.out (rbs_one _) (by unfold maxLen; omega) (by omega) (by simp) ?_; intro v5 w5 hown6 hgrow6 _; rw [List.nil_append, Nat.zero_add] at hown6; have HOW5 := Lib.hid hown6; have HGW5 := Lib.hid hgrow6; clear hown6 hgrow6; have HB5 : Hid (Below w2.heap.size w2 w5) := ((Below.refl _ _).alloc (Nat.le_refl _) _).grown HGW5.out (by simp) fun g hg => (HEW.out.lt g hg).1; have HX5 := Lib.hid (old_below HXb.out HB5.out (row_lt HXb.out)); have HV5 := Lib.hid (HVb.out.below HB5.out); have hrow5 := HV5.out.2.1; rw [HNK.out] at hrow5; have HROW5 := Lib.hid hrow5; clear hrow5; have hrd5 := (ownk_rd HROW5.out).drop ((J + 1) * 2); rw [rbs_drop, Option.map_some, Addr.add_mid, Nat.zero_add] at hrd5; have HRD5 := Lib.hid hrd5; clear hrd5; have HS5 := Lib.hid HB5.out.size; obtain ⟨q0, q1, q2⟩ := three_cells HX5.out) | (at_builtin; refine wpList_append_rdk rfl _ _ 33 rfl w2.heap.size 76 i0 _ 2 16 Try.underlying33 hi0 hz0 hz1 hz2 rfl (by decide) v5 J (rbs (L.take J)) rfl HOW5.out (some ⟨g, 0, none⟩) 0 0 (rbs (L.drop (J + 1))) rfl (fun h => by cases h) (by rw [HNIL.out]; rfl) (show Rd w5 0 w5.heap.size _ _ by rw [HNIL.out]; exact Rd.nil) (rbs_one _) (by unfold maxLen; omega) (by omega) HS5.out ?_; intro v6 w6 hown6 hgrow6 _; have HOW6 := Lib.hid hown6; have HGW6 := Lib.hid hgrow6; clear hown6 hgrow6 q0 q1 q2; have HB6 : Hid (Below w2.heap.size w2 w6) := HB5.out.grown HGW6.out HS5.out fun g hg => (HOW5.out.lt g hg).1; have hoz := HOW6.out; rw [HDR.out] at hoz; obtain ⟨A8, c8, rfl, -⟩ := ownk_form hoz; have HOZ := Lib.hid hoz; clear hoz; have HVZ := Lib.hid (HVb.out.below HB6.out); have HXZ := Lib.hid (old_below HXb.out HB6.out (row_lt HXb.out)); have HYZ := Lib.hid (old_below HYb.out HB6.out (row_lt HYb.out)); have HNZ := Lib.hid (old_below HNb.out HB6.out (row_lt HNb.out)); obtain ⟨q0, q1, q2⟩ := three_cells HXZ.out; have hfz := frozen_of_row w6 w.heap.size 1 _ _ HXZ.out; have g1 := heap_setCell_same w6 w.heap.size 1 _ _ (.slice A8 J c8) HXZ.out; have g2 : (w6.setCell ⟨w.heap.size, 1, none⟩ (.slice A8 J c8)).heap[w.heap.size + 1]? = _ := (heap_setCell_other _ _ _ _ (by simp)).trans HYZ.out; have g3 : (w6.setCell ⟨w.heap.size, 1, none⟩ (.slice A8 J c8)).heap[N2]? = _ := (heap_setCell_other _ _ _ _ (by simp only; omega)).trans HNZ.out; have k2 := ownk_other HOZ.out HXZ.out (by decide) fun j hj => heap_setCell_other _ ⟨w.heap.size, 1, none⟩ j (.slice A8 J c8) hj; have k3 := ownk_other HVZ.out.2.2 HXZ.out (by decide) fun j hj => heap_setCell_other _ ⟨w.heap.size, 1, none⟩ j (.slice A8 J c8) hj; have k4 : Below w.heap.size w (w6.setCell ⟨w.heap.size, 1, none⟩ (.slice A8 J c8)) := (HBb.out.trans (HB6.out.mono HBb.out.size)).setCell (Nat.le_refl _) _; have HX7 := Lib.hid g1; have HY7 := Lib.hid g2; have HN7 := Lib.hid g3; have HK2 := Lib.hid k2; have HK3 := Lib.hid k3; have HB7 := Lib.hid k4; clear g1 g2 g3 k2 k3 k4))
          generalize w6.setCell ⟨w.heap.size, 1, none⟩ (.slice A8 J c8) = w7 at HX7 HY7 HN7 HK2 HK3 HB7 ⊢
          have HX8 : Hid (w7.heap[w.heap.size]? = some (.cells #[.string S, .slice A8 J c8, .slice A3 nd c3] 35 (0, 0))) := HX7.out
          have HV8 : Hid (RfV B (L.eraseIdx J) D w7 (.string S) (.slice A8 J c8) (.slice A3 nd c3)) := ⟨by rw [HS.out], by rw [HLEN.out]; exact ownk_base HK2.out (Nat.zero_le _), HK3.out⟩
          have hwf : IntKind.i64.wrap ((f : Int) + (s : Int) - (f : Int)) = (s : Int) := by rw [IntWalk.i64_in _ ⟨by omega, by omega⟩]; omega
          have hmk : ∀ W : World, (Instr.makeSlice 25 (.int .i64 (s : Int)) (.int .i64 (s : Int))).run Try.prog W = .ok (.slice (some ⟨W.heap.size, 0, none⟩) s s) (W.alloc (.cells (madeCells #[.int .u8 0] s) 5)) := fun W =>
            run_make_row' (P := Try.prog) 25 5 (.int .u8 0) 1 Try.underlying25 info_u8 rfl .i64 .i64 s (by omega) (by omega) W
          have hcv := zero_str (w7.alloc (.cells (madeCells #[.int .u8 0] s) 5)).drew w7.heap.size s (heap_alloc_new w7 _) (by omega)
          have hlen : f + (List.replicate s (0 : UInt8)).length ≤ B.length := by rw [List.length_replicate, HNB.out]; omega
          have hput := (refput_any (D := D) f (List.replicate s 0) (w7.alloc (.cells (madeCells #[.int .u8 0] s) 5)).drew (HV8.out.below (below_drewN' ((Below.refl _ _).alloc (Nat.le_refl _) _) 1)).shut hlen HR.out.bytes HR.out.most)
          simp only [List.toArray_replicate] at hput
          have HPUT := Lib.hid hput
          have HBD := Lib.hid (below_drewN' ((Below.refl w7.heap.size w7).alloc (Nat.le_refl _) (.cells (madeCells #[.int .u8 0] s) 5)) 1)
          obtain ⟨x0, x1, x2⟩ := three_cells HX8.out
          obtain ⟨n0, n1⟩ := two_cells HN7.out
          obtain ⟨m0, m1, m2⟩ := three_cells (w := (w7.alloc (.cells (madeCells #[.int .u8 0] s) 5)).drew) (old_alloc HX8.out _)
          obtain ⟨y0, y1, y2⟩ := three_cells HY7.out
          clear HX7 HK2 HK3 q0 q1 q2 hfz hlen hput
          go_region_with (go_at_call 47; refine HPUT.out.mono ?_; rintro e w8 ⟨v', rfl, ⟨z1, z2, z3, rfl, hv9⟩, hb9⟩; have hb10 := HBD.out.trans (hb9.mono HBD.out.size); have HY9 := Lib.hid (old_below HY7.out hb10 (row_lt HY7.out)); have HV9 := Lib.hid hv9; have HB9 := Lib.hid (HB7.out.trans (hb10.mono HB7.out.size)); obtain ⟨s0, s1, s2⟩ := stores_rf hv9 HY9.out; clear y0 y1 y2 hv9 hb9 hb10)
          all_goals rw [row3 HY9.out]
          all_goals have hend := ref_end HV9.out HY9.out HB9.out (Nat.le_succ _)
          all_goals go_wp2
          all_goals refine ret_two (g := w.heap.size + 1) rfl rfl (t := 35) (fr := (0, 0)) hend.2.2 Try.underlying35 rfl (by kernel_rfl) rfl ?_
          all_goals rw [HRES.out]
          all_goals rw [List.length_replicate] at hend
          all_goals exact ⟨_, rfl, hend.1, hend.2.1⟩
        · go_wp2_with (first | (at_builtin; refine wpList_append_rdk rfl _ _ 33 rfl w2.heap.size 76 i0 _ 2 16 Try.underlying33 hi0 hz0 hz1 hz2 rfl (by decide) (.slice (some ⟨w2.heap.size, 0, none⟩) 0 0) 0 [] rfl HEW.out (some ⟨g, 0, none⟩) k c2 (rbs (L.take k)) rfl (fun h => by cases h) (by rw [rbs_length, HLT.out]) HRD.out (rbs_one _) (by unfold maxLen; omega) (by omega) (by simp) ?_; intro v5 w5 hown6 hgrow6 _; rw [List.nil_append, Nat.zero_add] at hown6; have HOW5 := Lib.hid hown6; have HGW5 := Lib.hid hgrow6; clear hown6 hgrow6; have HB5 : Hid (Below w2.heap.size w2 w5) := ((Below.refl _ _).alloc (Nat.le_refl _) _).grown HGW5.out (by simp) fun g hg => (HEW.out.lt g hg).1; have HX5 := Lib.hid (old_below HXb.out HB5.out (row_lt HXb.out)); have HV5 := Lib.hid (HVb.out.below HB5.out); have hrow5 := HV5.out.2.1; rw [HNK.out] at hrow5; have HROW5 := Lib.hid hrow5; clear hrow5; have hrd5 := (ownk_rd HROW5.out).drop ((k + 1) * 2); rw [rbs_drop, Option.map_some, Addr.add_mid, Nat.zero_add] at hrd5; have HRD5 := Lib.hid hrd5; clear hrd5; have HS5 := Lib.hid HB5.out.size; obtain ⟨q0, q1, q2⟩ := three_cells HX5.out) | (at_builtin; refine wpList_append_rdk rfl _ _ 33 rfl w2.heap.size 76 i0 _ 2 16 Try.underlying33 hi0 hz0 hz1 hz2 rfl (by decide) v5 k (rbs (L.take k)) rfl HOW5.out (some ⟨g, (k + 1) * 2, none⟩) (nk - (k + 1)) (c2 - (k + 1)) (rbs (L.drop (k + 1))) rfl (fun h => by cases h) (by rw [rbs_length, HLD.out]) HRD5.out (rbs_one _) (by unfold maxLen; omega) (by omega) HS5.out ?_; intro v6 w6 hown6 hgrow6 _; have HOW6 := Lib.hid hown6; have HGW6 := Lib.hid hgrow6; clear hown6 hgrow6 q0 q1 q2; have HB6 : Hid (Below w2.heap.size w2 w6) := HB5.out.grown HGW6.out HS5.out fun g hg => (HOW5.out.lt g hg).1; have hoz := HOW6.out; rw [HDR.out, show k + (nk - (k + 1)) = J from by omega] at hoz; obtain ⟨A8, c8, rfl, -⟩ := ownk_form hoz; have HOZ := Lib.hid hoz; clear hoz; have HVZ := Lib.hid (HVb.out.below HB6.out); have HXZ := Lib.hid (old_below HXb.out HB6.out (row_lt HXb.out)); have HYZ := Lib.hid (old_below HYb.out HB6.out (row_lt HYb.out)); have HNZ := Lib.hid (old_below HNb.out HB6.out (row_lt HNb.out)); obtain ⟨q0, q1, q2⟩ := three_cells HXZ.out; have hfz := frozen_of_row w6 w.heap.size 1 _ _ HXZ.out; have g1 := heap_setCell_same w6 w.heap.size 1 _ _ (.slice A8 J c8) HXZ.out; have g2 : (w6.setCell ⟨w.heap.size, 1, none⟩ (.slice A8 J c8)).heap[w.heap.size + 1]? = _ := (heap_setCell_other _ _ _ _ (by simp)).trans HYZ.out; have g3 : (w6.setCell ⟨w.heap.size, 1, none⟩ (.slice A8 J c8)).heap[N2]? = _ := (heap_setCell_other _ _ _ _ (by simp only; omega)).trans HNZ.out; have k2 := ownk_other HOZ.out HXZ.out (by decide) fun j hj => heap_setCell_other _ ⟨w.heap.size, 1, none⟩ j (.slice A8 J c8) hj; have k3 := ownk_other HVZ.out.2.2 HXZ.out (by decide) fun j hj => heap_setCell_other _ ⟨w.heap.size, 1, none⟩ j (.slice A8 J c8) hj; have k4 : Below w.heap.size w (w6.setCell ⟨w.heap.size, 1, none⟩ (.slice A8 J c8)) := (HBb.out.trans (HB6.out.mono HBb.out.size)).setCell (Nat.le_refl _) _; have HX7 := Lib.hid g1; have HY7 := Lib.hid g2; have HN7 := Lib.hid g3; have HK2 := Lib.hid k2; have HK3 := Lib.hid k3; have HB7 := Lib.hid k4; clear g1 g2 g3 k2 k3 k4))
          generalize w6.setCell ⟨w.heap.size, 1, none⟩ (.slice A8 J c8) = w7 at HX7 HY7 HN7 HK2 HK3 HB7 ⊢
          have HX8 : Hid (w7.heap[w.heap.size]? = some (.cells #[.string S, .slice A8 J c8, .slice A3 nd c3] 35 (0, 0))) := HX7.out
          have HV8 : Hid (RfV B (L.eraseIdx k) D w7 (.string S) (.slice A8 J c8) (.slice A3 nd c3)) := ⟨by rw [HS.out], by rw [HLEN.out]; exact ownk_base HK2.out (Nat.zero_le _), HK3.out⟩
          have hwf : IntKind.i64.wrap ((f : Int) + (s : Int) - (f : Int)) = (s : Int) := by rw [IntWalk.i64_in _ ⟨by omega, by omega⟩]; omega
          have hmk : ∀ W : World, (Instr.makeSlice 25 (.int .i64 (s : Int)) (.int .i64 (s : Int))).run Try.prog W = .ok (.slice (some ⟨W.heap.size, 0, none⟩) s s) (W.alloc (.cells (madeCells #[.int .u8 0] s) 5)) := fun W =>
            run_make_row' (P := Try.prog) 25 5 (.int .u8 0) 1 Try.underlying25 info_u8 rfl .i64 .i64 s (by omega) (by omega) W
          have hcv := zero_str (w7.alloc (.cells (madeCells #[.int .u8 0] s) 5)).drew w7.heap.size s (heap_alloc_new w7 _) (by omega)
          have hlen : f + (List.replicate s (0 : UInt8)).length ≤ B.length := by rw [List.length_replicate, HNB.out]; omega
          have hput := (refput_any (D := D) f (List.replicate s 0) (w7.alloc (.cells (madeCells #[.int .u8 0] s) 5)).drew (HV8.out.below (below_drewN' ((Below.refl _ _).alloc (Nat.le_refl _) _) 1)).shut hlen HR.out.bytes HR.out.most)
          simp only [List.toArray_replicate] at hput
          have HPUT := Lib.hid hput
          have HBD := Lib.hid (below_drewN' ((Below.refl w7.heap.size w7).alloc (Nat.le_refl _) (.cells (madeCells #[.int .u8 0] s) 5)) 1)
          obtain ⟨x0, x1, x2⟩ := three_cells HX8.out
          obtain ⟨n0, n1⟩ := two_cells HN7.out
          obtain ⟨m0, m1, m2⟩ := three_cells (w := (w7.alloc (.cells (madeCells #[.int .u8 0] s) 5)).drew) (old_alloc HX8.out _)
          obtain ⟨y0, y1, y2⟩ := three_cells HY7.out
          clear HX7 HK2 HK3 q0 q1 q2 hfz hlen hput
          go_region_with (go_at_call 47; refine HPUT.out.mono ?_; rintro e w8 ⟨v', rfl, ⟨z1, z2, z3, rfl, hv9⟩, hb9⟩; have hb10 := HBD.out.trans (hb9.mono HBD.out.size); have HY9 := Lib.hid (old_below HY7.out hb10 (row_lt HY7.out)); have HV9 := Lib.hid hv9; have HB9 := Lib.hid (HB7.out.trans (hb10.mono HB7.out.size)); obtain ⟨s0, s1, s2⟩ := stores_rf hv9 HY9.out; clear y0 y1 y2 hv9 hb9 hb10)
          all_goals rw [row3 HY9.out]
          all_goals have hend := ref_end HV9.out HY9.out HB9.out (Nat.le_succ _)
          all_goals go_wp2
          all_goals refine ret_two (g := w.heap.size + 1) rfl rfl (t := 35) (fr := (0, 0)) hend.2.2 Try.underlying35 rfl (by kernel_rfl) rfl ?_
          all_goals rw [HRES.out]
          all_goals rw [List.length_replicate] at hend
          all_goals exact ⟨_, rfl, hend.1, hend.2.1⟩
      · have HN2 : Hid (∀ j b, j < k + 1 → L[j]? = some b → atB x b = false) := fun j b hj hb => by
          by_cases hjk : j < k
          · exact HNO.out j b hjk hb
          · obtain rfl : j = k := by omega
            rw [HBK.out] at hb
            injection hb with hb
            rw [← hb]
            exact decide_eq_false q
        have hq2 : ((f : Int) == x) = false := beq_eq_false_iff_ne.2 q
        go_wp2
        go_roundw
        case rel => exact ⟨k + 1, by omega, by go_num, HN2, trivial⟩
        case measure => simp [intOf]; omega
    · obtain rfl : nk = k := by omega
      have hix : L.findIdx? (atB x) = none := idx_none fun j h hj hb => HNO.out j h (by rw [← HNK.out]; exact hj) hb
      have HRES : Hid (freeO B L D x = (B, L, D, 2)) := by
        show _ = _
        unfold freeO
        simp only [hix]
      clear hix
      have HO := Lib.hid HV.out.ones
      have hend := ref_end HV.out HY.out HB1.out (Nat.le_succ _)
      go_wp2_with (first | refine wpList_load_row rfl 35 _ rfl w.heap.size rfl 35 #[.string S, .slice A2 nk c2, .slice A3 nd c3] (0, 0) _ HX.out Try.underlying35 rfl (by kernel_rfl) ?_ | refine wpList_store_row rfl 35 _ _ rfl (w.heap.size + 1) #[.string S, .slice A2 nk c2, .slice A3 nd c3] rfl rfl 35 _ HY.out (by kernel_rfl) rfl HO.out ?_)
      refine ret_two (g := w.heap.size + 1) rfl rfl hend.2.2 Try.underlying35 rfl (by kernel_rfl) rfl ?_
      rw [HRES.out]
      exact ⟨_, rfl, hend.1, hend.2.1⟩
end Go.Proofs.Ytagajijjcjfopaa
