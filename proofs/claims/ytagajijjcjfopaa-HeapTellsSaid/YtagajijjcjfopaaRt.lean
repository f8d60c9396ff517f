/-
  The document's Tell and Hear. No condition.
-/
import Derived.Test.YtagajijjcjfopaaRg
namespace Go.Proofs.Ytagajijjcjfopaa
open Go.RowKit

theorem row3 {w : World} {g : Nat} {t : TypeId} {u0 u1 u2 : Value} (h : w.heap[g]? = some (.cells #[u0, u1, u2] t (0, 0))) (v0 v1 v2 : Value) :
    ((w.setCell ⟨g, 0, none⟩ v0).setCell ⟨g, 1, none⟩ v1).setCell ⟨g, 2, none⟩ v2 = w.setRow g #[v0, v1, v2] := by
  rw [setCell_eq_setRow w g 0 _ t (0, 0) v0 h, setCell_eq_setRow _ g 1 _ t (0, 0) v1 (setRow_heap _ _ _ _ _ _ h), setRow_setRow, setCell_eq_setRow _ g 2 _ t (0, 0) v2 (setRow_heap _ _ _ _ _ _ h), setRow_setRow]
  rfl
theorem own_empty (w : World) (e : TypeId) (k : Nat) : (w.alloc (.cells #[] e)).ownsRow w.heap.size e k (.slice (some ⟨w.heap.size, 0, none⟩) 0 0) 0 [] :=
  ⟨by simp, .inr ⟨w.heap.size, 0, #[], rfl, Nat.le_refl _, heap_alloc_new w _, Nat.le_refl _, Nat.zero_le _, by simp, by simp⟩⟩
theorem own_none {w : World} {base k n c : Nat} {e : TypeId} {A : Option Addr} {xs : List Value} (h : w.ownsRow base e k (.slice A n c) n xs) : A = none → c = 0 := by
  obtain ⟨A', c', e, -, -, h3⟩ := ownk_form h
  injection e with e1 _ e3
  subst e1 e3
  exact h3
set_option maxRecDepth 100000 in
set_option maxHeartbeats 1000000 in
theorem reftell_any {B : List UInt8} {L : List Bk} {D : List Bool} {v : Value} (p : Int) (w : World) (hv : Rf B L D v w) (hR : RightH B L D) (hpi : I64 p) :
    Calls Try.prog 29 #[v, .int .i64 p] w fun e w' => ∃ v', e = .returned (.tuple #[v', .string ⟨(tellO B D p).2.1.toArray⟩, .int .i64 (tellO B D p).2.2]) ∧ Rf B L (tellO B D p).1 v' w' ∧ Below w.heap.size w w' := by
  unfold I64 at hpi
  obtain ⟨nb, hnb⟩ : ∃ k, B.length = k := ⟨_, rfl⟩
  obtain ⟨nk, hnk⟩ : ∃ k, L.length = k := ⟨_, rfl⟩
  obtain ⟨nd, hnd⟩ : ∃ k, D.length = k := ⟨_, rfl⟩
  obtain ⟨v1, v2, v3, rfl, hv⟩ := hv
  obtain ⟨A2, c2, A3, c3, rfl, rfl, rfl⟩ := hv.forms hnk hnd
  obtain ⟨S, hS⟩ : ∃ S : ByteArray, ⟨B.toArray⟩ = S := ⟨_, rfl⟩
  have hSz : S.size = nb := by rw [← hS, ← hnb]; rfl
  have hnd64 : nd ≤ 64 := by rw [← hnd]; exact hR.most
  have hnb64 : nb = 64 * nd := by rw [← hnb, ← hnd]; exact hR.len
  have hmy : nk ≤ 4096 := by have := hR.many; have := hR.bytes; omega
  rw [hS] at hv ⊢
  have HS := Lib.hid hS
  have HNB := Lib.hid hnb
  have HNK := Lib.hid hnk
  have HND := Lib.hid hnd
  have HR := Lib.hid hR
  go_enter Try.func29, Try.ntmps29
  go_upto_region 1 with (fail)
  obtain ⟨w1, hw1⟩ : ∃ w1, (w.alloc (.cells #[.string S, .slice A2 nk c2, .slice A3 nd c3] 35)).alloc (.cells #[.string ⟨#[]⟩, .slice none 0 0, .slice none 0 0] 35) = w1 := ⟨_, rfl⟩
  obtain ⟨hb1, hx1, hy1, hv1⟩ := ref_start hv hw1
  have HB1 := Lib.hid hb1
  have HX := Lib.hid hx1
  have HY := Lib.hid hy1
  have HV := Lib.hid hv1
  rw [hw1]
  clear hb1 hx1 hy1 hv1 hw1 hv hnb hnk hnd hR hS
  by_cases hp : 0 ≤ p ∧ p < (nd : Int)
  · obtain ⟨q, rfl⟩ : ∃ q : Nat, p = (q : Int) := ⟨p.toNat, by omega⟩
    have hq : q < nd := by omega
    have hp0 : ¬ (q : Int) < 0 := by omega
    have hp1 : (q : Int) < (nd : Int) := by omega
    have HRES : Hid (tellO B D (q : Int) = (D.set q false, pageB B q, 0)) := by
      show _ = _
      unfold tellO
      rw [HND.out, if_pos hp]
      rfl
    clear hp
    obtain ⟨i0, hi0, hz0, hz1, hz2⟩ := info_parts info_tf
    obtain ⟨x0, x1, x2⟩ := three_cells HX.out
    have HXe := Lib.hid (old_alloc HX.out (.cells #[] 4))
    have HYe := Lib.hid (old_alloc HY.out (.cells #[] 4))
    obtain ⟨e0, e1, e2⟩ := three_cells HXe.out
    have HEW := Lib.hid (own_empty w1 4 1)
    have HVe := HV.out.alloc (.cells #[] 4)
    have hv3 := HVe.2.2
    have hv2 := HVe.2.1
    rw [HND.out] at hv3
    rw [HNK.out] at hv2
    have HV2 := Lib.hid hv2
    have HD3 := Lib.hid (ownk_rd hv3)
    have HA3 := Lib.hid (own_none hv3)
    clear HVe hv3 hv2
    go_wp2_with (at_builtin; refine wpList_append_rd (P := Try.prog) rfl _ _ 27 rfl w1.heap.size 4 i0 _ 1 Try.underlying27 hi0 hz0 hz1 hz2 rfl (.slice (some ⟨w1.heap.size, 0, none⟩) 0 0) 0 [] rfl HEW.out A3 nd c3 (tfs D) rfl HA3.out (by rw [tfs_length, HND.out]) HD3.out (tfs_one D) (by unfold maxLen; omega) (by omega) (by simp) ?_)
    intro v9 w9 hown9 hgr9
    have hb9 : Below w1.heap.size w1 w9 := ((Below.refl _ _).alloc (Nat.le_refl _) _).grown hgr9 (by simp) fun g hg => (HEW.out.lt g hg).1
    have HB9 := Lib.hid (HB1.out.trans (hb9.mono HB1.out.size))
    have HX9 := Lib.hid (old_below HX.out hb9 (row_lt HX.out))
    have HY9 := Lib.hid (old_below HY.out hb9 (row_lt HY.out))
    have HV9 := Lib.hid (HV.out.below hb9)
    obtain ⟨g9, c9, cur9, rfl, hg9, hgc9, hnc9, -⟩ := ownk_some hown9 (by omega)
    have hlt1 : w.heap.size < w1.heap.size := row_lt HX.out
    have hlt2 : w.heap.size + 1 < w1.heap.size := row_lt HY.out
    have HOW9 := Lib.hid hown9
    obtain ⟨d, hd⟩ : ∃ d, D[q]? = some d := ⟨_, List.getElem?_eq_getElem (by rw [HND.out]; exact hq)⟩
    have hc9 := own_cell hown9 (j := q) (u := .bool d) (by simp [tfs, hd])
    have hf9 := frozen_of_row w9 g9 q cur9 _ hgc9
    have HOW10 : Hid ((w9.setCell ⟨g9, q, none⟩ (.bool false)).ownsRow w1.heap.size 4 1 (.slice (some ⟨g9, 0, none⟩) nd c9) nd (tfs (D.set q false))) := by
      have := own_put hown9 hq (u := .bool false) rfl
      rwa [show (tfs D).set q (.bool false) = tfs (D.set q false) from by simp [tfs]] at this
    have HX10 : Hid ((w9.setCell ⟨g9, q, none⟩ (.bool false)).heap[w.heap.size]? = some (.cells #[.string S, .slice A2 nk c2, .slice A3 nd c3] 35 (0, 0))) := (heap_setCell_other _ _ _ _ (by simp only; omega)).trans HX9.out
    have HY10 : Hid ((w9.setCell ⟨g9, q, none⟩ (.bool false)).heap[w.heap.size + 1]? = some (.cells #[.string ⟨#[]⟩, .slice none 0 0, .slice none 0 0] 35 (0, 0))) := (heap_setCell_other _ _ _ _ (by simp only; omega)).trans HY9.out
    have HK10 := Lib.hid (ownk_other (by have := HV9.out.2.1; rw [HNK.out] at this; exact this) hgc9 (by decide) fun j hj => heap_setCell_other _ ⟨g9, q, none⟩ j (.bool false) hj)
    have HB10 : Hid (Below w.heap.size w (w9.setCell ⟨g9, q, none⟩ (.bool false))) := HB9.out.setCell (by simp only; omega) _
    have hx10 := (three_cells HX10.out).2.2
    have hf10 := frozen_of_row _ w.heap.size 2 _ _ HX10.out
    clear hown9 hgr9 hb9 x0 x1 x2 e0 e1 e2 hd hgc9 hi0 hz0 hz1 hz2
    go_upto_region 6 with (fail)
    have g1 := heap_setCell_same _ w.heap.size 2 _ _ (.slice (some ⟨g9, 0, none⟩) nd c9) HX10.out
    have g2 : ((w9.setCell ⟨g9, q, none⟩ (.bool false)).setCell ⟨w.heap.size, 2, none⟩ (.slice (some ⟨g9, 0, none⟩) nd c9)).heap[w.heap.size + 1]? = _ := (heap_setCell_other _ _ _ _ (by simp)).trans HY10.out
    have k2 := ownk_other HK10.out HX10.out (by decide) fun j hj => heap_setCell_other _ ⟨w.heap.size, 2, none⟩ j (.slice (some ⟨g9, 0, none⟩) nd c9) hj
    have k3 := ownk_other HOW10.out HX10.out (by decide) fun j hj => heap_setCell_other _ ⟨w.heap.size, 2, none⟩ j (.slice (some ⟨g9, 0, none⟩) nd c9) hj
    have k4 : Below w.heap.size w ((w9.setCell ⟨g9, q, none⟩ (.bool false)).setCell ⟨w.heap.size, 2, none⟩ (.slice (some ⟨g9, 0, none⟩) nd c9)) := HB10.out.setCell (Nat.le_refl _) _
    generalize (w9.setCell ⟨g9, q, none⟩ (.bool false)).setCell ⟨w.heap.size, 2, none⟩ (.slice (some ⟨g9, 0, none⟩) nd c9) = wb at g1 g2 k2 k3 k4 ⊢
    have g1' : wb.heap[w.heap.size]? = some (.cells #[.string S, .slice A2 nk c2, .slice (some ⟨g9, 0, none⟩) nd c9] 35 (0, 0)) := g1
    have HXB := Lib.hid g1'
    have HYB := Lib.hid g2
    have HVB : Hid (RfV B L (D.set q false) wb (.string S) (.slice A2 nk c2) (.slice (some ⟨g9, 0, none⟩) nd c9)) := by
      refine ⟨by rw [HS.out], by rw [HNK.out]; exact k2, ?_⟩
      rw [List.length_set, HND.out]
      exact ownk_base k3 (Nat.zero_le _)
    have HBB := Lib.hid k4
    have HO := Lib.hid HVB.out.ones
    have hend := ref_end HVB.out HYB.out HBB.out (Nat.le_succ _)
    have HPG : Hid (S.extract (64 * q) (64 * q + 64) = ⟨(pageB B q).toArray⟩) := by
      show _ = _
      rw [← HS.out, Lib.extract_eq, Nat.add_sub_cancel_left]
      rfl
    clear g1 g1' g2 k2 k3 k4 hc9 hf9 hx10 hf10 HOW10 HX10 HY10 HK10 HB10
    obtain ⟨x0, x1, x2⟩ := three_cells HXB.out
    obtain ⟨y0, y1, y2⟩ := three_cells HYB.out
    have f0 := frozen_of_row wb (w.heap.size + 1) 0 _ _ HYB.out
    have f1 := frozen_of_row wb (w.heap.size + 1) 1 _ _ HYB.out
    have f2 := frozen_of_row wb (w.heap.size + 1) 2 _ _ HYB.out
    have hi1 : (64 : Int) * (q : Int) + 64 ≤ (nb : Int) := by omega
    have hi2 : 64 * q + 64 ≤ nb := by omega
    go_region
    rw [row3 HYB.out]
    go_wp2
    refine ret_three (g := w.heap.size + 1) rfl rfl (t := 35) (fr := (0, 0)) hend.2.2 Try.underlying35 rfl (by kernel_rfl) rfl ?_
    rw [HRES.out]
    refine ⟨_, ?_, hend.1.below (below_drewN' (Below.refl _ _) 1), below_drewN' hend.2.1 1⟩
    show Ending.returned (.tuple #[_, .string (S.extract (64 * q) (64 * q + 64)), _]) = _
    rw [HPG.out]
    rfl
  · have HRES : Hid (tellO B D p = (D, [], 2)) := by
      show _ = _
      unfold tellO
      rw [HND.out, if_neg hp]
    have HO := Lib.hid HV.out.ones
    have hend := ref_end HV.out HY.out HB1.out (Nat.le_succ _)
    have hx3 := three_cells HX.out
    obtain ⟨x0, x1, x2⟩ := hx3
    by_cases hp0 : p < 0
    · clear hp
      go_wp2_with (first | refine wpList_load_row rfl 35 _ rfl w.heap.size rfl 35 #[.string S, .slice A2 nk c2, .slice A3 nd c3] (0, 0) _ HX.out Try.underlying35 rfl (by kernel_rfl) ?_ | refine wpList_store_row rfl 35 _ _ rfl (w.heap.size + 1) #[.string S, .slice A2 nk c2, .slice A3 nd c3] rfl rfl 35 _ HY.out (by kernel_rfl) rfl HO.out ?_)
      refine ret_three (g := w.heap.size + 1) rfl rfl hend.2.2 Try.underlying35 rfl (by kernel_rfl) rfl ?_
      rw [HRES.out]
      exact ⟨_, rfl, hend.1, hend.2.1⟩
    · have hp1 : (nd : Int) ≤ p := by omega
      clear hp
      go_wp2_with (first | refine wpList_load_row rfl 35 _ rfl w.heap.size rfl 35 #[.string S, .slice A2 nk c2, .slice A3 nd c3] (0, 0) _ HX.out Try.underlying35 rfl (by kernel_rfl) ?_ | refine wpList_store_row rfl 35 _ _ rfl (w.heap.size + 1) #[.string S, .slice A2 nk c2, .slice A3 nd c3] rfl rfl 35 _ HY.out (by kernel_rfl) rfl HO.out ?_)
      refine ret_three (g := w.heap.size + 1) rfl rfl hend.2.2 Try.underlying35 rfl (by kernel_rfl) rfl ?_
      rw [HRES.out]
      exact ⟨_, rfl, hend.1, hend.2.1⟩

set_option maxRecDepth 100000 in
set_option maxHeartbeats 1000000 in
theorem refhear_any {B : List UInt8} {L : List Bk} {D : List Bool} {v : Value} (p : Int) (l : List UInt8) (w : World) (hv : Rf B L D v w) (hR : RightH B L D) (hpi : I64 p) (hl : l.length ≤ 100000) :
    Calls Try.prog 31 #[v, .int .i64 p, .string ⟨l.toArray⟩] w fun e w' => ∃ v', e = .returned (.tuple #[v', .int .i64 (hearO B D.length p l).2]) ∧ Rf (hearO B D.length p l).1 L D v' w' ∧ Below w.heap.size w w' := by
  unfold I64 at hpi
  obtain ⟨n, hn⟩ : ∃ k, l.length = k := ⟨_, rfl⟩
  obtain ⟨Z, hZ⟩ : ∃ Z : ByteArray, ⟨l.toArray⟩ = Z := ⟨_, rfl⟩
  have hZz : Z.size = n := by rw [← hZ, ← hn]; rfl
  rw [hZ]
  rw [hn] at hl
  have HZ := Lib.hid hZ
  have HN := Lib.hid hn
  clear hn hZ
  obtain ⟨nb, hnb⟩ : ∃ k, B.length = k := ⟨_, rfl⟩
  obtain ⟨nk, hnk⟩ : ∃ k, L.length = k := ⟨_, rfl⟩
  obtain ⟨nd, hnd⟩ : ∃ k, D.length = k := ⟨_, rfl⟩
  obtain ⟨v1, v2, v3, rfl, hv⟩ := hv
  obtain ⟨A2, c2, A3, c3, rfl, rfl, rfl⟩ := hv.forms hnk hnd
  obtain ⟨S, hS⟩ : ∃ S : ByteArray, ⟨B.toArray⟩ = S := ⟨_, rfl⟩
  have hSz : S.size = nb := by rw [← hS, ← hnb]; rfl
  have hnd64 : nd ≤ 64 := by rw [← hnd]; exact hR.most
  have hnb64 : nb = 64 * nd := by rw [← hnb, ← hnd]; exact hR.len
  have hmy : nk ≤ 4096 := by have := hR.many; have := hR.bytes; omega
  rw [hS] at hv ⊢
  have HS := Lib.hid hS
  have HNB := Lib.hid hnb
  have HNK := Lib.hid hnk
  have HND := Lib.hid hnd
  have HR := Lib.hid hR
  go_enter Try.func31, Try.ntmps31
  go_upto_region 1 with (fail)
  obtain ⟨w1, hw1⟩ : ∃ w1, (w.alloc (.cells #[.string S, .slice A2 nk c2, .slice A3 nd c3] 35)).alloc (.cells #[.string ⟨#[]⟩, .slice none 0 0, .slice none 0 0] 35) = w1 := ⟨_, rfl⟩
  obtain ⟨hb1, hx1, hy1, hv1⟩ := ref_start hv hw1
  have HB1 := Lib.hid hb1
  have HX := Lib.hid hx1
  have HY := Lib.hid hy1
  have HV := Lib.hid hv1
  rw [hw1]
  clear hb1 hx1 hy1 hv1 hw1 hv hnb hnk hnd hR hS
  by_cases hp : 0 ≤ p ∧ p < (nd : Int)
  · obtain ⟨q, rfl⟩ : ∃ q : Nat, p = (q : Int) := ⟨p.toNat, by omega⟩
    have hq : q < nd := by omega
    have hp0 : ¬ (q : Int) < 0 := by omega
    have hp1 : (q : Int) < (nd : Int) := by omega
    have HO := Lib.hid HV.out.ones
    obtain ⟨x0, x1, x2⟩ := three_cells HX.out
    by_cases hn64 : n = 64
    · subst hn64
      have HRES : Hid (hearO B D.length (q : Int) l = (putB B (64 * q) l, 0)) := by
        show _ = _
        unfold hearO
        rw [HND.out, if_pos hp, if_pos HN.out]
        rfl
      have hf0 := frozen_of_row w1 w.heap.size 0 _ _ HX.out
      have hi1 : (64 : Int) * (q : Int) + 64 ≤ (nb : Int) := by omega
      have hi2 : 64 * q + 64 ≤ nb := by omega
      have hnb4 : nb ≤ 4096 := by omega
      clear hp hnb64
      go_upto_region 5 with (fail)
      go_region
      have hS6 : S.extract 0 (64 * q) ++ Z ++ S.extract (64 * q + 64) nb = ⟨(putB B (64 * q) l).toArray⟩ := str_put HS.out HZ.out HNB.out HN.out (by omega)
      rw [hS6]
      have g1 := heap_setCell_same w1 w.heap.size 0 _ _ (.string ⟨(putB B (64 * q) l).toArray⟩) HX.out
      have g2 : (w1.setCell ⟨w.heap.size, 0, none⟩ (.string ⟨(putB B (64 * q) l).toArray⟩)).heap[w.heap.size + 1]? = _ := (heap_setCell_other _ _ _ _ (by simp)).trans HY.out
      have k2 := ownk_other HV.out.2.1 HX.out (by decide) fun j hj => heap_setCell_other _ ⟨w.heap.size, 0, none⟩ j (.string ⟨(putB B (64 * q) l).toArray⟩) hj
      have k3 := ownk_other HV.out.2.2 HX.out (by decide) fun j hj => heap_setCell_other _ ⟨w.heap.size, 0, none⟩ j (.string ⟨(putB B (64 * q) l).toArray⟩) hj
      have k4 : Below w.heap.size w (w1.setCell ⟨w.heap.size, 0, none⟩ (.string ⟨(putB B (64 * q) l).toArray⟩)) := HB1.out.setCell (Nat.le_refl _) _
      obtain ⟨w5, hw5⟩ : ∃ w5, (w1.setCell ⟨w.heap.size, 0, none⟩ (.string ⟨(putB B (64 * q) l).toArray⟩)).drew = w5 := ⟨_, rfl⟩
      have HX6 : Hid (w5.heap[w.heap.size]? = some (.cells #[.string ⟨(putB B (64 * q) l).toArray⟩, .slice A2 nk c2, .slice A3 nd c3] 35 (0, 0))) := by rw [← hw5]; exact g1
      have HY6 : Hid (w5.heap[w.heap.size + 1]? = some (.cells #[.string ⟨#[]⟩, .slice none 0 0, .slice none 0 0] 35 (0, 0))) := by rw [← hw5]; exact g2
      have HV6 : Hid (RfV (putB B (64 * q) l) L D w5 (.string ⟨(putB B (64 * q) l).toArray⟩) (.slice A2 nk c2) (.slice A3 nd c3)) := by
        rw [← hw5]
        exact ⟨rfl, k2, k3⟩
      have HB6 : Hid (Below w.heap.size w w5) := by rw [← hw5]; exact below_drewN' k4 1
      have HO6 := Lib.hid HV6.out.ones
      have hend := ref_end HV6.out HY6.out HB6.out (Nat.le_succ _)
      rw [hw5]
      clear hw5 g1 g2 k2 k3 k4 x0 x1 x2 hf0 hS6
      go_wp2_with (first | refine wpList_load_row rfl 35 _ rfl w.heap.size rfl 35 #[.string ⟨(putB B (64 * q) l).toArray⟩, .slice A2 nk c2, .slice A3 nd c3] (0, 0) _ HX6.out Try.underlying35 rfl (by kernel_rfl) ?_ | refine wpList_store_row rfl 35 _ _ rfl (w.heap.size + 1) #[.string ⟨(putB B (64 * q) l).toArray⟩, .slice A2 nk c2, .slice A3 nd c3] rfl rfl 35 _ HY6.out (by kernel_rfl) rfl HO6.out ?_)
      refine ret_two (g := w.heap.size + 1) rfl rfl hend.2.2 Try.underlying35 rfl (by kernel_rfl) rfl ?_
      rw [HRES.out]
      exact ⟨_, rfl, hend.1, hend.2.1⟩
    · have HRES : Hid (hearO B D.length (q : Int) l = (B, 1)) := by
        show _ = _
        unfold hearO
        rw [HND.out, if_pos hp, if_neg (by rw [HN.out]; exact hn64)]
      have hn2 : ¬ (n : Int) = 64 := by omega
      have hn3 : ((n : Int) == 64) = false := beq_eq_false_iff_ne.2 hn2
      have hend := ref_end HV.out HY.out HB1.out (Nat.le_succ _)
      clear hp
      go_wp2_with (first | refine wpList_load_row rfl 35 _ rfl w.heap.size rfl 35 #[.string S, .slice A2 nk c2, .slice A3 nd c3] (0, 0) _ HX.out Try.underlying35 rfl (by kernel_rfl) ?_ | refine wpList_store_row rfl 35 _ _ rfl (w.heap.size + 1) #[.string S, .slice A2 nk c2, .slice A3 nd c3] rfl rfl 35 _ HY.out (by kernel_rfl) rfl HO.out ?_)
      refine ret_two (g := w.heap.size + 1) rfl rfl hend.2.2 Try.underlying35 rfl (by kernel_rfl) rfl ?_
      rw [HRES.out]
      exact ⟨_, rfl, hend.1, hend.2.1⟩
  · have HRES : Hid (hearO B D.length p l = (B, 2)) := by
      show _ = _
      unfold hearO
      rw [HND.out, if_neg hp]
    have HO := Lib.hid HV.out.ones
    have hend := ref_end HV.out HY.out HB1.out (Nat.le_succ _)
    have hx3 := three_cells HX.out
    obtain ⟨x0, x1, x2⟩ := hx3
    by_cases hp0 : p < 0
    · clear hp
      go_wp2_with (first | refine wpList_load_row rfl 35 _ rfl w.heap.size rfl 35 #[.string S, .slice A2 nk c2, .slice A3 nd c3] (0, 0) _ HX.out Try.underlying35 rfl (by kernel_rfl) ?_ | refine wpList_store_row rfl 35 _ _ rfl (w.heap.size + 1) #[.string S, .slice A2 nk c2, .slice A3 nd c3] rfl rfl 35 _ HY.out (by kernel_rfl) rfl HO.out ?_)
      refine ret_two (g := w.heap.size + 1) rfl rfl hend.2.2 Try.underlying35 rfl (by kernel_rfl) rfl ?_
      rw [HRES.out]
      exact ⟨_, rfl, hend.1, hend.2.1⟩
    · have hp1 : (nd : Int) ≤ p := by omega
      clear hp
      go_wp2_with (first | refine wpList_load_row rfl 35 _ rfl w.heap.size rfl 35 #[.string S, .slice A2 nk c2, .slice A3 nd c3] (0, 0) _ HX.out Try.underlying35 rfl (by kernel_rfl) ?_ | refine wpList_store_row rfl 35 _ _ rfl (w.heap.size + 1) #[.string S, .slice A2 nk c2, .slice A3 nd c3] rfl rfl 35 _ HY.out (by kernel_rfl) rfl HO.out ?_)
      refine ret_two (g := w.heap.size + 1) rfl rfl hend.2.2 Try.underlying35 rfl (by kernel_rfl) rfl ?_
      rw [HRES.out]
      exact ⟨_, rfl, hend.1, hend.2.1⟩
end Go.Proofs.Ytagajijjcjfopaa
