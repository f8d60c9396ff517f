/-
  recvq.lay: pieces and one more. Every pieces of not too many bytes, none of them far from the other. No condition.
-/
import Derived.Test.YtdgfhcojmfgimaaRde
namespace Go.Proofs.Ytdgfhcojmfgimaa
open Go.RowKit

set_option maxRecDepth 100000 in
set_option maxHeartbeats 8000000 in
theorem lay_any (lo : Nat) (l : List Pc) (v : Value) (p : Pc) (vp : Value) (S : Nat → Prop) (w : World) (hlo : lo ≤ w.heap.size) (hv : PcsT lo w v l) (hp : Rv w S vp (bytesD p.data)) (hn0 : 0 < p.data.length) (hn1 : p.data.length ≤ 1000) (hl9 : l.length ≤ 1000) (hok : ∀ t ∈ l, -1000 ≤ offQ p t ∧ offQ p t ≤ 1000 ∧ 0 < t.data.length ∧ t.data.length ≤ 1000) :
    Calls Try.prog 28 #[v, .agg #[.int .u32 p.seq, vp]] w fun e w' => ∃ v', e = .returned v' ∧ PcsT lo w' v' (layQ l p) ∧ Below w.heap.size w w' := by
  obtain ⟨A, c, xs0, rfl, htr, hrow, hlc, hcm, hA⟩ := hv
  obtain ⟨n, hn⟩ : ∃ n, p.data.length = n := ⟨_, rfl⟩
  obtain ⟨B9, e9, rfl, h91, h92, h93, h94⟩ := rv_bytes.1 (rv_tight hp)
  have HR9 : Hid (Rd w 0 w.heap.size B9 (cells p.data)) := RdS.rd h91 (fun _ h => ⟨Nat.zero_le _, h.2⟩)
  rw [hn] at hn0 hn1 h93 ⊢
  obtain ⟨m, hgm⟩ : ∃ m, l.length = m := ⟨_, rfl⟩
  rw [hgm] at hlc hl9 ⊢
  obtain ⟨sp, hsp⟩ : ∃ sp, p.seq = sp := ⟨_, rfl⟩
  rw [hsp]
  have HLO := Lib.hid hlo
  have HN := Lib.hid hn
  have HGM := Lib.hid hgm
  have HSP := Lib.hid hsp
  have HOK := Lib.hid hok
  have HTR := Lib.hid htr
  have HROW := Lib.hid hrow
  obtain ⟨w1, hw1⟩ : ∃ w1, w.alloc (.cells #[.int .u32 sp, .slice B9 n e9] 55) = w1 := ⟨_, rfl⟩
  have HB1 : Hid (Below w.heap.size w w1) := by rw [← hw1]; exact (Below.refl _ _).alloc (Nat.le_refl _) _
  have HX1 : Hid (w1.heap[w.heap.size]? = some (.cells #[.int .u32 sp, .slice B9 n e9] 55 (0, 0))) := by rw [← hw1]; exact heap_alloc_new w _
  have HW := Lib.hid hw1
  have hm63 : c ≤ 9223372036854775807 := by unfold maxLen at hcm; omega
  have he63 : e9 ≤ 9223372036854775807 := by unfold maxLen at h94; omega
  have HA0 := Lib.hid hA
  clear hw1 hp hlo hn hgm hsp hok htr hrow hA hcm h91 h92 h94
  go_enter Try.func28, Try.ntmps28
  go_upto_region 2 with (fail)
  change Code.wp _ _ _ _ (w.alloc (.cells #[.int .u32 sp, .slice B9 n e9] 55))
  rw [HW.out]
  clear HW
  have HP1 := Lib.hid (var_cell HX1.out 1 (v := .slice B9 n e9) rfl)
  have HBS : Hid (Below w1.heap.size w1 w1) := Below.refl _ _
  have HTY1 := HX1
  refine wp_region_quiet_below (by kernel_rfl) (by kernel_rfl) ?_
  (first | go_big_quiet_step (fail) | quiet_step (fail))
  (refine wpQuiet_step (fun K hK => ?_); refine quiet_load_cell (by kernel_rfl) 26 _ rfl ((⟨w.heap.size, 0, none⟩ : Addr).add 1) (by first | rfl | (simp [Act.eval, Addr.add_mid])) (.slice B9 n e9) _ HP1.out Try.underlying26 rfl ?_; refine hK _ ?_; clear hK K; go_frame)
  (first | go_big_quiet_step (fail) | quiet_step (fail))
  (first | go_big_quiet_step (fail) | quiet_step (fail))
  (first | go_big_quiet_step (fail) | quiet_step (fail))
  refine wpQuiet_nil ?_
  intro w9 hw9
  obtain ⟨⟨dq, osq⟩, rfl⟩ := hw9
  have HB17 := Lib.hid ((HBS.out).trans ((below_regrown w1 dq osq).mono (HBS.out).size))
  generalize Sort.grow (redrawn w1 dq) osq = w7 at *
  have HX7 := Lib.hid (old_below HX1.out HB17.out (row_lt HX1.out))
  have HB7 := Lib.hid (HB1.out.trans (HB17.out.mono HB1.out.size))
  have HS7 : Hid (w.heap.size + 1 ≤ w7.heap.size) := row_lt HX7.out
  clear HP1 HBS HTY1 HX1 HB17 HB1
  go_wp2
  go_loopw [5, 6, 7, 8, 9, 22] (fun t5 t6 t7 t8 t9 t22 wr => ∃ (k : Nat) (f t : Int), k ≤ m ∧ t22 = .int .i64 (k : Int) ∧ t8 = .int .i64 f ∧ t9 = .int .i64 t ∧ f ≤ 0 ∧ -1000 ≤ f ∧ (n : Int) ≤ t ∧ t ≤ 2000 ∧ Hid (fromQ p (l.take k) = f) ∧ Hid (toQ p (l.take k) = t) ∧ Hid (Three lo w wr w7.heap.size (aheadQ p) (touchQ p) (behindQ p) (l.take k) t5 t6 t7) ∧ Hid (Below w7.heap.size w7 wr)) (fun _ _ _ _ _ t22 _ => m - (intOf t22).toNat)
  case atStart => exact ⟨0, 0, n, Nat.zero_le _, rfl, rfl, rfl, by omega, by omega, by omega, by omega, Lib.hid rfl, (by show _ = _; rw [← HN.out]; rfl), Lib.hid (Three.nil _ _ _ _ _ _ _), Lib.hid (Below.refl _ _)⟩
  case round =>
    obtain ⟨k, f, t, hk, rfl, rfl, rfl, hf0, hf1, ht1, ht2, HF, HT, H3, HBR⟩ := hrel
    generalize u5 = v5 at H3 ⊢
    generalize u6 = v6 at H3 ⊢
    generalize u7 = v7 at H3 ⊢
    by_cases hlk : k < m
    · obtain ⟨pt, hpt⟩ : ∃ pt, l[k]? = some pt := ⟨_, List.getElem?_eq_getElem (by rw [HGM.out]; exact hlk)⟩
      have hsucc : l.take (k + 1) = l.take k ++ [pt] := by
        have hl := (List.getElem?_eq_some_iff.1 hpt).1
        rw [List.take_succ_eq_append_getElem hl, (List.getElem?_eq_some_iff.1 hpt).2]
      obtain ⟨v, hcv, A2, c2, rfl, htb⟩ := HROW.out.2 k pt hpt
      obtain ⟨x0, x1, x2, x3⟩ := HOK.out pt (List.mem_of_getElem? hpt)
      obtain ⟨x, hx⟩ : ∃ x, offQ p pt = x := ⟨_, rfl⟩
      obtain ⟨m2, hm2⟩ : ∃ m2, pt.data.length = m2 := ⟨_, rfl⟩
      obtain ⟨sx, hsx⟩ : ∃ sx, pt.seq = sx := ⟨_, rfl⟩
      rw [hx] at x0 x1
      rw [hsx] at hcv
      rw [hm2] at x2 x3 hcv
      obtain ⟨ad, rfl⟩ : ∃ ad, A = some ad := by
        obtain ⟨ad, e, _⟩ := HTR.out.rd 0 _ (List.getElem?_eq_getElem (by rw [HROW.out.1, HGM.out]; omega))
        exact ⟨ad, e⟩
      have HEL : Hid (∀ j v, ([.int .u32 sx, .slice A2 m2 c2] : List Value)[j]? = some v → wr.cell? ((ad.add (k * 2)).add j) = some v) := by
        show ∀ j v, _
        rw [← hcv]
        exact (((HTR.out.rd.below HB7.out (Nat.le_refl _)).below HBR.out HB7.out.size).elem k)
      have HPT : Hid (PcT lo w [.int .u32 sx, .slice A2 m2 c2] pt) := ⟨.slice A2 m2 c2, by rw [hsx], A2, c2, by rw [hm2], htb⟩
      have HDX : Hid (diffS sx sp = x) := by show _ = _; rw [← hsx, ← HSP.out, ← hx]; rfl
      have hfin : endQ p pt = x + m2 := by unfold endQ; rw [hx, hm2]
      have hbd : behindQ p pt = decide ((n : Int) < x) := by unfold behindQ; rw [hx, HN.out]
      have htd : touchQ p pt = (!decide ((n : Int) < x) && !decide (x + m2 < 0)) := by unfold touchQ; rw [hbd, hfin]
      have had : aheadQ p pt = (!decide ((n : Int) < x) && decide (x + m2 < 0)) := by unfold aheadQ; rw [hbd, hfin]
      have HSU := Lib.hid hsucc
      have HXX := Lib.hid hx
      have HFI := Lib.hid hfin
      have HBD := Lib.hid hbd
      have HTD := Lib.hid htd
      have HAD := Lib.hid had
      have HADD : Hid (IntKind.i64.wrap (x + (m2 : Int)) = x + m2) := IntWalk.i64_in _ ⟨by omega, by omega⟩
      have hcase : ((n : Int) < x) ∨ (x ≤ n ∧ x + m2 < 0) ∨ (x ≤ n ∧ 0 ≤ x + m2) := by omega
      clear hpt hsucc hcv hx hm2 hsx hfin hbd htd had htb
      rcases hcase with c1 | ⟨c1, c2'⟩ | ⟨c1, c2'⟩
      all_goals
        go_upto_region 6 with (first | refine wpList_load_at rfl 55 _ rfl (ad.add (k * 2)) rfl [.int .u32 sx, .slice A2 m2 c2] _ HEL.out Try.underlying55 rfl (by kernel_rfl) ?_ | refine wpList_store_new rfl 55 _ _ rfl wr #[.int .u32 0, .slice none 0 0] #[.int .u32 sx, .slice A2 m2 c2] rfl rfl (by kernel_rfl) rfl rfl ?_)
        obtain ⟨b, hb⟩ : ∃ b, wr.heap.size = b := ⟨_, rfl⟩
        obtain ⟨w8, hw8⟩ : ∃ w8, wr.alloc (.cells #[.int .u32 sx, .slice A2 m2 c2] 55) = w8 := ⟨_, rfl⟩
        have hb8 : Below wr.heap.size wr w8 := by rw [← hw8]; exact (Below.refl _ _).alloc (Nat.le_refl _) _
        have hg8 : w8.heap[b]? = some (.cells #[.int .u32 sx, .slice A2 m2 c2] 55 (0, 0)) := by rw [← hw8, ← hb]; exact heap_alloc_new wr _
        have HB8 := Lib.hid (HBR.out.trans (hb8.mono HBR.out.size))
        have HG8 := Lib.hid hg8
        have H38 := Lib.hid (H3.out.below hb8)
        have HB0 := Lib.hid H3.out
        have HX8 := Lib.hid (old_below HX7.out HB8.out (row_lt HX7.out))
        have HBW := Lib.hid hb
        rw [hb, hw8]
        have q0 : w8.cell? ⟨b, 0, none⟩ = some (.int .u32 sx) := by rw [cell_of_row _ _ _ _ _ _ HG8.out]; rfl
        have q1 : w8.cell? ⟨b, 1, none⟩ = some (.slice A2 m2 c2) := by rw [cell_of_row _ _ _ _ _ _ HG8.out]; rfl
        have p0 : w8.cell? ⟨w.heap.size, 0, none⟩ = some (.int .u32 sp) := by rw [cell_of_row _ _ _ _ _ _ HX8.out]; rfl
        have p1 : w8.cell? ⟨w.heap.size, 1, none⟩ = some (.slice B9 n e9) := by rw [cell_of_row _ _ _ _ _ _ HX8.out]; rfl
        clear hb hw8 hb8 hg8
        go_wp2_with fail
        refine (seqdiff_any _ _ _).mono ?_
        rintro e w3 ⟨rfl, rfl⟩
        rw [HDX.out]
        have hadd := HADD.out
      · have HB1' : Hid (behindQ p pt = true) := by show _ = _; rw [HBD.out]; exact decide_eq_true c1
        have HA1 : Hid (aheadQ p pt = false) := by show _ = _; rw [HAD.out, decide_eq_true c1]; rfl
        have HT1 : Hid (touchQ p pt = false) := by show _ = _; rw [HTD.out, decide_eq_true c1]; rfl
        have HBB : Hid (∀ j, v7.ownBlock = some j → b ≠ j) := fun j he => by have := HB0.out.b.lt j he; have := HBW.out; omega
        obtain ⟨xs, hox, hrx⟩ := H38.out.b
        obtain ⟨j, hj⟩ : ∃ j, ((l.take k).filter (behindQ p)).length = j := ⟨_, rfl⟩
        rw [hj] at hox
        have hjk : j ≤ 1000 := by
          rw [← hj]
          exact Nat.le_trans (List.length_filter_le _ _) (Nat.le_trans (List.length_take_le _ _) (by omega))
        have HOX := Lib.hid hox
        have HRX := Lib.hid hrx
        have HJ := Lib.hid hj
        obtain ⟨i0, hi0, hz0, hz1, hz2⟩ := pc_parts
        have hz3 : (Value.agg #[.int .u32 0, .slice none 0 0]).cells.size = 2 := rfl
        have HONE : Hid (∀ u ∈ (#[.int .u32 sx, .slice A2 m2 c2] : Array Value).toList, u.oneCell' = true) := by
          intro u hu
          simp at hu
          rcases hu with rfl | rfl <;> rfl
        clear hox hrx hj
        go_wp2_with (first | refine wpList_load_row rfl 55 _ rfl b rfl 55 #[.int .u32 sx, .slice A2 m2 c2] (0, 0) _ HG8.out Try.underlying55 rfl (by kernel_rfl) ?_ | refine wpList_build_one rfl 27 55 _ rfl #[.int .u32 sx, .slice A2 m2 c2] rfl Try.underlying27 2 (by decide) (by decide) (by kernel_rfl) rfl ?_ | (at_builtin; refine wpList_append_elem (P := Try.prog) rfl _ _ 27 rfl w7.heap.size 55 i0 _ 2 32 Try.underlying27 hi0 hz0 hz1 hz2 hz3 (by omega) v7 j xs rfl (HOX.out.alloc _) w8.heap.size 1 #[.int .u32 sx, .slice A2 m2 c2] 55 (0, 0) rfl (heap_alloc_new w8 _) rfl HONE.out (by unfold maxLen; omega) (by omega) (by have := HB8.out.size; simp; omega) ?_; intro v' w9 hown9 hgrow9 hat9; have HO9 := Lib.hid hown9; have HG9 := Lib.hid hgrow9; have HA9 := Lib.hid hat9; have s0 : w9.cell? ⟨b, 0, none⟩ = some (.int .u32 sx) := cells_keep hgrow9 (old_alloc HG8.out _) HBB.out 0; have s1 : w9.cell? ⟨b, 1, none⟩ = some (.slice A2 m2 c2) := cells_keep hgrow9 (old_alloc HG8.out _) HBB.out 1; clear hown9 hgrow9 hat9))
        have H3A := H38.out.below ((Below.refl w8.heap.size w8).alloc (Nat.le_refl _) (.cells #[.int .u32 sx, .slice A2 m2 c2] 55))
        have hy9 : w9.ownsRow w7.heap.size 55 2 v' (((l.take k).filter (behindQ p)).length + 1) (xs ++ [.int .u32 sx, .slice A2 m2 c2]) := by rw [HJ.out]; exact HO9.out
        have HB9 : Hid (Below w7.heap.size w7 w9) := (HB8.out.alloc HB8.out.size _).grown HG9.out (by have := HB8.out.size; simp; omega) fun g hg => (HOX.out.lt g hg).1
        have H39 : Hid (Three lo w w9 w7.heap.size (aheadQ p) (touchQ p) (behindQ p) (l.take (k + 1)) v5 v6 v') := by
          show Three _ _ _ _ _ _ _ _ _ _ _
          rw [HSU.out]
          exact H3A.behind HA1.out HT1.out HB1'.out HRX.out hy9 HG9.out HA9.out HPT.out
        clear H3A hy9 hi0 hz0 hz1 hz2 hz3 q0 q1 p0 p1 s0 s1 hadd
        have F1 : Hid (fromQ p (l.take (k + 1)) = f) := by show _ = _; rw [HSU.out, from_out _ _ _ HT1.out]; exact HF.out
        have T1 : Hid (toQ p (l.take (k + 1)) = t) := by show _ = _; rw [HSU.out, to_out _ _ _ HT1.out]; exact HT.out
        go_wp2
        go_roundw
        case rel => exact ⟨k + 1, f, t, by omega, by go_num, rfl, rfl, hf0, hf1, ht1, ht2, F1, T1, H39, HB9⟩
        case measure => simp [intOf]; omega
      · have HB1' : Hid (behindQ p pt = false) := by show _ = _; rw [HBD.out]; exact decide_eq_false (by omega)
        have HA1 : Hid (aheadQ p pt = true) := by show _ = _; rw [HAD.out, decide_eq_false (by omega), decide_eq_true c2']; rfl
        have HT1 : Hid (touchQ p pt = false) := by show _ = _; rw [HTD.out, decide_eq_false (by omega), decide_eq_true c2']; rfl
        have HBB : Hid (∀ j, v5.ownBlock = some j → b ≠ j) := fun j he => by have := HB0.out.a.lt j he; have := HBW.out; omega
        obtain ⟨xs, hox, hrx⟩ := H38.out.a
        obtain ⟨j, hj⟩ : ∃ j, ((l.take k).filter (aheadQ p)).length = j := ⟨_, rfl⟩
        rw [hj] at hox
        have hjk : j ≤ 1000 := by
          rw [← hj]
          exact Nat.le_trans (List.length_filter_le _ _) (Nat.le_trans (List.length_take_le _ _) (by omega))
        have HOX := Lib.hid hox
        have HRX := Lib.hid hrx
        have HJ := Lib.hid hj
        obtain ⟨i0, hi0, hz0, hz1, hz2⟩ := pc_parts
        have hz3 : (Value.agg #[.int .u32 0, .slice none 0 0]).cells.size = 2 := rfl
        have HONE : Hid (∀ u ∈ (#[.int .u32 sx, .slice A2 m2 c2] : Array Value).toList, u.oneCell' = true) := by
          intro u hu
          simp at hu
          rcases hu with rfl | rfl <;> rfl
        clear hox hrx hj
        go_wp2_with (first | refine wpList_load_row rfl 55 _ rfl b rfl 55 #[.int .u32 sx, .slice A2 m2 c2] (0, 0) _ HG8.out Try.underlying55 rfl (by kernel_rfl) ?_ | refine wpList_build_one rfl 27 55 _ rfl #[.int .u32 sx, .slice A2 m2 c2] rfl Try.underlying27 2 (by decide) (by decide) (by kernel_rfl) rfl ?_ | (at_builtin; refine wpList_append_elem (P := Try.prog) rfl _ _ 27 rfl w7.heap.size 55 i0 _ 2 32 Try.underlying27 hi0 hz0 hz1 hz2 hz3 (by omega) v5 j xs rfl (HOX.out.alloc _) w8.heap.size 1 #[.int .u32 sx, .slice A2 m2 c2] 55 (0, 0) rfl (heap_alloc_new w8 _) rfl HONE.out (by unfold maxLen; omega) (by omega) (by have := HB8.out.size; simp; omega) ?_; intro v' w9 hown9 hgrow9 hat9; have HO9 := Lib.hid hown9; have HG9 := Lib.hid hgrow9; have HA9 := Lib.hid hat9; have s0 : w9.cell? ⟨b, 0, none⟩ = some (.int .u32 sx) := cells_keep hgrow9 (old_alloc HG8.out _) HBB.out 0; have s1 : w9.cell? ⟨b, 1, none⟩ = some (.slice A2 m2 c2) := cells_keep hgrow9 (old_alloc HG8.out _) HBB.out 1; clear hown9 hgrow9 hat9))
        have H3A := H38.out.below ((Below.refl w8.heap.size w8).alloc (Nat.le_refl _) (.cells #[.int .u32 sx, .slice A2 m2 c2] 55))
        have hy9 : w9.ownsRow w7.heap.size 55 2 v' (((l.take k).filter (aheadQ p)).length + 1) (xs ++ [.int .u32 sx, .slice A2 m2 c2]) := by rw [HJ.out]; exact HO9.out
        have HB9 : Hid (Below w7.heap.size w7 w9) := (HB8.out.alloc HB8.out.size _).grown HG9.out (by have := HB8.out.size; simp; omega) fun g hg => (HOX.out.lt g hg).1
        have H39 : Hid (Three lo w w9 w7.heap.size (aheadQ p) (touchQ p) (behindQ p) (l.take (k + 1)) v' v6 v7) := by
          show Three _ _ _ _ _ _ _ _ _ _ _
          rw [HSU.out]
          exact H3A.ahead HA1.out HT1.out HB1'.out HRX.out hy9 HG9.out HA9.out HPT.out
        clear H3A hy9 hi0 hz0 hz1 hz2 hz3 q0 q1 p0 p1 s0 s1 hadd
        have F1 : Hid (fromQ p (l.take (k + 1)) = f) := by show _ = _; rw [HSU.out, from_out _ _ _ HT1.out]; exact HF.out
        have T1 : Hid (toQ p (l.take (k + 1)) = t) := by show _ = _; rw [HSU.out, to_out _ _ _ HT1.out]; exact HT.out
        go_wp2
        go_roundw
        case rel => exact ⟨k + 1, f, t, by omega, by go_num, rfl, rfl, hf0, hf1, ht1, ht2, F1, T1, H39, HB9⟩
        case measure => simp [intOf]; omega
      · have HB1' : Hid (behindQ p pt = false) := by show _ = _; rw [HBD.out]; exact decide_eq_false (by omega)
        have HA1 : Hid (aheadQ p pt = false) := by show _ = _; rw [HAD.out, decide_eq_false (by omega), decide_eq_false (by omega)]; rfl
        have HT1 : Hid (touchQ p pt = true) := by show _ = _; rw [HTD.out, decide_eq_false (by omega), decide_eq_false (by omega)]; rfl
        have HBB : Hid (∀ j, v6.ownBlock = some j → b ≠ j) := fun j he => by have := HB0.out.t.lt j he; have := HBW.out; omega
        obtain ⟨xs, hox, hrx⟩ := H38.out.t
        obtain ⟨j, hj⟩ : ∃ j, ((l.take k).filter (touchQ p)).length = j := ⟨_, rfl⟩
        rw [hj] at hox
        have hjk : j ≤ 1000 := by
          rw [← hj]
          exact Nat.le_trans (List.length_filter_le _ _) (Nat.le_trans (List.length_take_le _ _) (by omega))
        have HOX := Lib.hid hox
        have HRX := Lib.hid hrx
        have HJ := Lib.hid hj
        obtain ⟨i0, hi0, hz0, hz1, hz2⟩ := pc_parts
        have hz3 : (Value.agg #[.int .u32 0, .slice none 0 0]).cells.size = 2 := rfl
        have HONE : Hid (∀ u ∈ (#[.int .u32 sx, .slice A2 m2 c2] : Array Value).toList, u.oneCell' = true) := by
          intro u hu
          simp at hu
          rcases hu with rfl | rfl <;> rfl
        clear hox hrx hj
        go_wp2_with (first | refine wpList_load_row rfl 55 _ rfl b rfl 55 #[.int .u32 sx, .slice A2 m2 c2] (0, 0) _ HG8.out Try.underlying55 rfl (by kernel_rfl) ?_ | refine wpList_build_one rfl 27 55 _ rfl #[.int .u32 sx, .slice A2 m2 c2] rfl Try.underlying27 2 (by decide) (by decide) (by kernel_rfl) rfl ?_ | (at_builtin; refine wpList_append_elem (P := Try.prog) rfl _ _ 27 rfl w7.heap.size 55 i0 _ 2 32 Try.underlying27 hi0 hz0 hz1 hz2 hz3 (by omega) v6 j xs rfl (HOX.out.alloc _) w8.heap.size 1 #[.int .u32 sx, .slice A2 m2 c2] 55 (0, 0) rfl (heap_alloc_new w8 _) rfl HONE.out (by unfold maxLen; omega) (by omega) (by have := HB8.out.size; simp; omega) ?_; intro v' w9 hown9 hgrow9 hat9; have HO9 := Lib.hid hown9; have HG9 := Lib.hid hgrow9; have HA9 := Lib.hid hat9; have s0 : w9.cell? ⟨b, 0, none⟩ = some (.int .u32 sx) := cells_keep hgrow9 (old_alloc HG8.out _) HBB.out 0; have s1 : w9.cell? ⟨b, 1, none⟩ = some (.slice A2 m2 c2) := cells_keep hgrow9 (old_alloc HG8.out _) HBB.out 1; clear hown9 hgrow9 hat9))
        all_goals
          have H3A := H38.out.below ((Below.refl w8.heap.size w8).alloc (Nat.le_refl _) (.cells #[.int .u32 sx, .slice A2 m2 c2] 55))
          have hy9 : w9.ownsRow w7.heap.size 55 2 v' (((l.take k).filter (touchQ p)).length + 1) (xs ++ [.int .u32 sx, .slice A2 m2 c2]) := by rw [HJ.out]; exact HO9.out
          have HB9 : Hid (Below w7.heap.size w7 w9) := (HB8.out.alloc HB8.out.size _).grown HG9.out (by have := HB8.out.size; simp; omega) fun g hg => (HOX.out.lt g hg).1
          have H39 : Hid (Three lo w w9 w7.heap.size (aheadQ p) (touchQ p) (behindQ p) (l.take (k + 1)) v5 v' v7) := by
            show Three _ _ _ _ _ _ _ _ _ _ _
            rw [HSU.out]
            exact H3A.touch HA1.out HT1.out HB1'.out HRX.out hy9 HG9.out HA9.out HPT.out
          clear H3A hy9 hi0 hz0 hz1 hz2 hz3 q0 q1 p0 p1 s0 s1 hadd
          have F1 : Hid (fromQ p (l.take (k + 1)) = min f x) := by show _ = _; rw [HSU.out, from_in _ _ _ HT1.out, HF.out, HXX.out]
          have T1 : Hid (toQ p (l.take (k + 1)) = max t (x + m2)) := by show _ = _; rw [HSU.out, to_in _ _ _ HT1.out, HT.out, HFI.out]
          go_roundw
          case rel =>
            have hk1 : k + 1 ≤ m := hlk
            have hgn : (.int .i64 ((k : Int) + 1) : Value) = .int .i64 ((k + 1 : Nat) : Int) := by go_num
            refine ⟨k + 1, min f x, max t (x + m2), hk1, hgn, ?_, ?_, by omega, by omega, by omega, by omega, F1, T1, H39, HB9⟩
            · congr 1
              first | omega | (split <;> omega)
            · congr 1
              first | omega | (split <;> omega)
          case measure => simp [intOf]; omega
    · obtain rfl : k = m := by omega
      have hgt : l.take k = l := List.take_of_length_le (Nat.le_of_eq HGM.out)
      rw [hgt] at HF HT H3
      obtain ⟨a, ha⟩ := Int.eq_ofNat_of_zero_le (show 0 ≤ -f by omega)
      obtain ⟨tn, htn⟩ := Int.eq_ofNat_of_zero_le (show 0 ≤ t by omega)
      obtain ⟨d, hd⟩ : ∃ d, d = tn + a := ⟨_, rfl⟩
      have hsub : IntKind.i64.wrap (t - f) = (d : Int) := by
        rw [show t - f = (d : Int) from by omega]
        exact IntWalk.i64_in _ ⟨by omega, by omega⟩
      have hmk := make_row d (by omega) wr
      obtain ⟨J, hJ⟩ : ∃ J, wr.heap.size = J := ⟨_, rfl⟩
      have HJ := Lib.hid hJ
      obtain ⟨wm, hwm⟩ : ∃ wm, wr.alloc (.cells (cells (List.replicate d 0)).toArray 5) = wm := ⟨_, rfl⟩
      rw [hJ, hwm] at hmk
      have hbm : Below wr.heap.size wr wm := by rw [← hwm]; exact (Below.refl _ _).alloc (Nat.le_refl _) _
      have HGJ : Hid (wm.heap[J]? = some (.cells (cells (List.replicate d 0)).toArray 5 (0, 0))) := by rw [← hwm, ← hJ]; exact heap_alloc_new wr _
      have HBM := Lib.hid (HBR.out.trans (hbm.mono HBR.out.size))
      have H3M := Lib.hid (H3.out.below hbm)
      have HD : Hid ((d : Int) = t - f) := by show _ = _; omega
      have HFA : Hid (-f = (a : Int)) := ha
      have hdm : d ≤ 3000 := by omega
      have hae : a + n ≤ d := by omega
      have HNEG : Hid (IntKind.i64.wrap (-f) = (a : Int)) := by
        show _ = _
        rw [ha]
        exact IntWalk.i64_in _ ⟨by omega, by omega⟩
      clear hbm hwm hJ hd hgt ha htn
      go_wp2_with fail
      obtain ⟨lj, hlj⟩ : ∃ lj : List UInt8, List.replicate d 0 = lj := ⟨_, rfl⟩
      rw [hlj] at HGJ
      have HLJ : Hid (lj.length = d) := by show _ = _; rw [← hlj, List.length_replicate]
      have HLJ0 := Lib.hid hlj
      have HWJ : Hid (w.heap.size + 1 ≤ J) := by have := HS7.out; have := HBR.out.size; have := HJ.out; show _ ≤ _; omega
      have HPB : Hid (∀ w' : World, wm.grownBy w' (some J) → w'.heap[w.heap.size]? = some (.cells #[.int .u32 sp, .slice B9 n e9] 55 (0, 0))) := fun w' hg => by
        have h1 := old_below HX7.out HBM.out (row_lt HX7.out)
        exact (hg.block _ (row_lt h1) (fun he => by injection he with he; have := HWJ.out; omega)).trans h1
      have HBW : Hid (∀ w' : World, wm.grownBy w' (some J) → Below w.heap.size w w') := fun w' hg => (HB7.out.trans (HBM.out.mono HB7.out.size)).grown hg (HB7.out.trans (HBM.out.mono HB7.out.size)).size fun g hg2 => by injection hg2 with hg2; have := HWJ.out; omega
      clear hlj hmk hsub
      apply wp_region_relyG [6] (fun L w' => wm.grownBy w' (some J) ∧ w'.heap[J]? = some (.cells (cells (if L 6 then over lj a p.data else lj)).toArray 5 (0, 0))) (RL [Is _, Is _, Is _, Is (.slice (some ⟨J, a, none⟩) (d - a) (d - a)), Is _, Is _, Is (goInt n)]) [false, false, false, false, false, false, false, false, false, false, false, false, false, false, false, false, false, false, false, false, false, false, false, false, false, false, false, false, false, false, false, false, false, false, false, false, false, false, false, false, false, false, false, false, false, false, false, false, false, false, false, false, false, false, false, false, false, false, false, false, false, false, false, false, false, false, false, false, true, true, true, true, true, true, true, false, false, false, false, false, false, false, false, false, false, false, false, false, false, false, false, false, false, false, false, false, false, false, false, false, false, false, false, false, false]
      · kernel_rfl
      · kernel_rfl
      · kernel_rfl
      · refine ⟨?_, ?_, ?_, ?_, ?_, ?_, ?_, trivial⟩
        · intro L ev w' hC hL hx K hK
          have e14 : ev (.tmp 14) = _ := hx.base 14 (by kernel_rfl)
          have HK := Lib.hid hK
          have HC := Lib.hid hC
          have HL := Lib.hid hL
          have HX := Lib.hid hx
          have hc := hx.cst
          skip
          clear hx hK hC hL
          unfold Run
          simp [execOp, Upon, go_sem, *]
          exact HK.out _ _ (.inl ⟨Below.refl _ _, by decide⟩) rfl
        · intro L ev w' hC hL hx K hK
          have e8 : ev (.tmp 8) = _ := hx.base 8 (by kernel_rfl)
          have HK := Lib.hid hK
          have HC := Lib.hid hC
          have HL := Lib.hid hL
          have HX := Lib.hid hx
          have hc := hx.cst
          skip
          clear hx hK hC hL
          unfold Run
          simp [execOp, Upon, go_sem, *]
          exact HK.out _ _ (.inl ⟨Below.refl _ _, by decide⟩) rfl
        · intro L ev w' hC hL hx K hK
          have e69 := hx.held 1 _ rfl (by kernel_rfl)
          change ev (.tmp 69) = _ at e69
          have HK := Lib.hid hK
          have HC := Lib.hid hC
          have HL := Lib.hid hL
          have HX := Lib.hid hx
          have hc := hx.cst
          skip
          clear hx hK hC hL
          have hs2 := HNEG.out
          unfold Run
          simp [execOp, Upon, go_sem, *]
          exact HK.out _ _ (.inl ⟨Below.refl _ _, by decide⟩) rfl
        · intro L ev w' hC hL hx K hK
          have e68 := hx.held 0 _ rfl (by kernel_rfl)
          have e70 := hx.held 2 _ rfl (by kernel_rfl)
          change ev (.tmp 68) = _ at e68
          change ev (.tmp 70) = _ at e70
          have HK := Lib.hid hK
          have HC := Lib.hid hC
          have HL := Lib.hid hL
          have HX := Lib.hid hx
          have hc := hx.cst
          skip
          clear hx hK hC hL
          have q : ev (.tmp 68) = .slice (some ⟨J, 0, none⟩) d d := e68
          have hrun : (Instr.slice 26 (.slice (some ⟨J, 0, none⟩) d d) (some (ev (.tmp 70))) none none).run Try.prog w' = .ok (.slice (some ⟨J, a, none⟩) (d - a) (d - a)) w' := by
            rw [e70]
            have := run_slice_l (P := Try.prog) 26 5 1 Try.underlying26 (by kernel_rfl) (some ⟨J, 0, none⟩) d d a (by omega) w'
            rw [if_neg (by omega), Option.map_some, Addr.add_mid, Nat.zero_add, Nat.mul_one] at this
            exact this
          unfold Run
          rw [run_sliceE 26 _ (some _) none rfl Try.underlying26 q hrun]
          exact HK.out _ _ (.inl ⟨Below.refl _ _, by decide⟩) rfl
        · intro L ev w' hC hL hx K hK
          have e3 : ev (.tmp 3) = _ := hx.base 3 (by kernel_rfl)
          have HK := Lib.hid hK
          have HC := Lib.hid hC
          have HL := Lib.hid hL
          have HX := Lib.hid hx
          have hc := hx.cst
          skip
          clear hx hK hC hL
          unfold Run
          simp [execOp, Upon, go_sem, *]
          exact HK.out _ _ (.inl ⟨Below.refl _ _, by decide⟩) rfl
        · intro L ev w' hC hL hx K hK
          have e72 := hx.held 4 _ rfl (by kernel_rfl)
          change ev (.tmp 72) = _ at e72
          have HK := Lib.hid hK
          have HC := Lib.hid hC
          have HL := Lib.hid hL
          have HX := Lib.hid hx
          have hc := hx.cst
          skip
          clear hx hK hC hL
          have cM := cell_of_row _ _ 1 _ _ _ (HPB.out w' HC.out.1)
          simp at cM
          unfold Run
          simp [execOp, Upon, go_sem, *]
          exact HK.out _ _ (.inl ⟨Below.refl _ _, by decide⟩) rfl
        · intro L ev w' hC hL hx K hK
          have e71 := hx.held 3 _ rfl (by kernel_rfl)
          have e73 := hx.held 5 _ rfl (by kernel_rfl)
          change ev (.tmp 71) = _ at e71
          change ev (.tmp 73) = _ at e73
          have HK := Lib.hid hK
          have HC := Lib.hid hC
          have HL := Lib.hid hL
          have HX := Lib.hid hx
          have hc := hx.cst
          skip
          clear hx hK hC hL
          have hC := HC.out
          obtain ⟨hC1, hC2⟩ := hC
          rw [HL.out] at hC2
          have hrun := copy_bytes w' J a d n e9 3 B9 lj p.data hC2 HLJ.out HN.out (by omega) (by omega) (HR9.out.below (HBW.out w' HC.out.1) (Nat.le_refl _))
          have HC1 := Lib.hid hC1
          have HC2 := Lib.hid hC2
          clear hC1 hC2
          unfold Run
          rw [run_copyE _ _ 26 26 rfl e71 e73 hrun]
          refine HK.out _ _ (.inr ⟨⟨grown_setRow HC1.out _, setRow_heap _ _ _ _ _ _ HC2.out⟩, fun j hj hlj u hr => rl_sg (S := fun _ _ => True) (ex := []) 0 (by exact ⟨.inr (is_sg _ _), .inr (is_sg _ _), .inr (is_sg _ _), .inr (is_sg _ _), .inr (is_sg _ _), .inr (is_sg _ _), .inr (is_sg _ _), trivial⟩) j u _ _ rfl trivial hr⟩) rfl
      · exact rl_mono ⟨is_mono _, is_mono _, is_mono _, is_mono _, is_mono _, is_mono _, is_mono _, trivial⟩
      · exact fun L L' w1 he h => ⟨h.1, by rw [← he 6 (by simp)]; exact h.2⟩
      · exact fun L w1 w2 hb h => ⟨grown_below h.1 hb, (hb.block _ (row_lt h.2)).trans h.2⟩
      · exact ⟨World.grownBy.refl _ _, HGJ.out⟩
      · simp
      intro us wr hG hH
      obtain ⟨-, -, -, -, -, -, -, -⟩ := hH
      simp only [fillM]
      generalize us 68 = v68
      generalize us 69 = v69
      generalize us 70 = v70
      generalize us 71 = v71
      generalize us 72 = v72
      generalize us 73 = v73
      generalize us 74 = v74
      obtain ⟨g1, g2⟩ := hG
      have HG1 := Lib.hid g1
      obtain ⟨ts, hts⟩ : ∃ ts, l.filter (touchQ p) = ts := ⟨_, rfl⟩
      obtain ⟨xt, hot, hrt⟩ := H3M.out.t
      rw [hts] at hot hrt
      obtain ⟨nt, hnt⟩ : ∃ nt, ts.length = nt := ⟨_, rfl⟩
      rw [hnt] at hot
      have hnt2 : nt ≤ 1000 := by
        rw [← hnt, ← hts]
        exact Nat.le_trans (List.length_filter_le _ _) (by rw [HGM.out]; omega)
      obtain ⟨A6, c6, rfl, h61, h62, h63⟩ := ownk_form hot
      have HTT := Lib.hid ((Tr.own hot).wide (Nat.zero_le _))
      have HRT := Lib.hid hrt
      have HTS := Lib.hid hts
      have HNT := Lib.hid hnt
      have HC6 := Lib.hid (And.intro h61 (And.intro h62 h63))
      have HMIN : Hid (∀ t' ∈ ts, f ≤ offQ p t' ∧ endQ p t' ≤ t ∧ 0 < t'.data.length ∧ t'.data.length ≤ 1000 ∧ offQ p t' ≤ 1000) := fun t' ht' => by
        have h1 := (fold_min_le (fun x => offQ p x) (l.filter (touchQ p)) 0).2 t' (by rw [hts]; exact ht')
        have h2 := (fold_max_le (fun x => endQ p x) (l.filter (touchQ p)) p.data.length).2 t' (by rw [hts]; exact ht')
        have e1 := HF.out
        have e2 := HT.out
        unfold fromQ at e1
        unfold toQ at e2
        have hm : t' ∈ l := by
          have : t' ∈ l.filter (touchQ p) := by rw [hts]; exact ht'
          exact (List.mem_filter.1 this).1
        obtain ⟨_, y1, y2, y3⟩ := HOK.out t' hm
        exact ⟨by rw [← e1]; exact h1, by rw [← e2]; exact h2, y2, y3, y1⟩
      have HOV : Hid ((over lj a p.data).length = d) := by
        show _ = _
        rw [over_length _ _ _ (by rw [HLJ.out, HN.out]; exact hae), HLJ.out]
      obtain ⟨l0, hl0⟩ : ∃ l0, over lj a p.data = l0 := ⟨_, rfl⟩
      have g2' : wr.heap[J]? = some (.cells (cells l0).toArray 5 (0, 0)) := by rw [← hl0]; exact g2
      rw [hl0] at HOV
      have HL0 := Lib.hid hl0
      have HG2 := Lib.hid g2'
      clear g1 g2 g2' hts hot hrt hnt h61 h62 h63 hl0
      go_wp2
      go_loopw [77] (fun t77 wr => ∃ (j : Nat) (lk : List UInt8), j ≤ nt ∧ t77 = .int .i64 (j : Int) ∧ Hid (lk = laid p f l0 (ts.take j)) ∧ Hid (lk.length = d) ∧ Hid (wr.heap[J]? = some (.cells (cells lk).toArray 5 (0, 0))) ∧ Hid (wm.grownBy wr (some J))) (fun t77 _ => nt - (intOf t77).toNat)
      case atStart => exact ⟨0, l0, Nat.zero_le _, rfl, Lib.hid rfl, HOV, HG2, HG1⟩
      case round =>
        obtain ⟨j, lk, hj, rfl, HLK, HLL, HGK, HGW⟩ := hrel
        by_cases hjn : j < nt
        · obtain ⟨pt, hpt⟩ : ∃ pt, ts[j]? = some pt := ⟨_, List.getElem?_eq_getElem (by rw [HNT.out]; exact hjn)⟩
          obtain ⟨v, hcv, A2, c2, rfl, htr2, _⟩ := HRT.out.2 j pt hpt
          obtain ⟨y1, y2, x2, x3, x1⟩ := HMIN.out pt (List.mem_of_getElem? hpt)
          obtain ⟨x, hx⟩ : ∃ x, offQ p pt = x := ⟨_, rfl⟩
          obtain ⟨m2, hm2⟩ : ∃ m2, pt.data.length = m2 := ⟨_, rfl⟩
          obtain ⟨sx, hsx⟩ : ∃ sx, pt.seq = sx := ⟨_, rfl⟩
          unfold endQ at y2
          rw [hx] at x1 y1 y2
          rw [hsx] at hcv
          rw [hm2] at x2 x3 hcv y2
          have HDX : Hid (diffS sx sp = x) := by show _ = _; rw [← hsx, ← HSP.out, ← hx]; rfl
          obtain ⟨ad6, rfl⟩ : ∃ ad, A6 = some ad := by
            obtain ⟨ad, e, _⟩ := HTT.out.rd 0 _ (List.getElem?_eq_getElem (by rw [HRT.out.1, HNT.out]; omega))
            exact ⟨ad, e⟩
          have HTW := (HTT.out.grown HGW.out fun g C t fr he hh => by
            injection he with he
            subst he
            rw [HGJ.out] at hh
            injection hh with hh
            injection hh with _ h2
            rw [← h2]
            decide)
          have HEL : Hid (∀ i v, ([.int .u32 sx, .slice A2 m2 c2] : List Value)[i]? = some v → wr.cell? ((ad6.add (j * 2)).add i) = some v) := by
            show ∀ i v, _
            rw [← hcv]
            exact HTW.rd.elem j
          obtain ⟨a2, ha2⟩ := Int.eq_ofNat_of_zero_le (show 0 ≤ x - f by omega)
          have ha3 : a2 + m2 ≤ d := by have := HD.out; omega
          have HS23 : Hid (IntKind.i64.wrap (x - f) = (a2 : Int)) := by
            show _ = _
            rw [ha2]
            exact IntWalk.i64_in _ ⟨by omega, by omega⟩
          have HLS := laid_succ p f l0 ts j pt hpt
          rw [hx, show (x - f).toNat = a2 from by omega, ← HLK.out] at HLS
          have HLS2 := Lib.hid HLS
          have HM2 := Lib.hid hm2
          have HTBP := Lib.hid htr2
          clear hpt hcv hx hm2 hsx HTW ha2 HLS htr2 y1 y2 x1
          go_wp2_with (first | refine wpList_load_at rfl 55 _ rfl (ad6.add (j * 2)) rfl [.int .u32 sx, .slice A2 m2 c2] _ HEL.out Try.underlying55 rfl (by kernel_rfl) ?_ | refine wpList_store_new rfl 55 _ _ rfl wr #[.int .u32 0, .slice none 0 0] #[.int .u32 sx, .slice A2 m2 c2] rfl rfl (by kernel_rfl) rfl rfl ?_)
          obtain ⟨b, hb⟩ : ∃ b, wr.heap.size = b := ⟨_, rfl⟩
          obtain ⟨wq, hwq⟩ : ∃ wq, wr.alloc (.cells #[.int .u32 sx, .slice A2 m2 c2] 55) = wq := ⟨_, rfl⟩
          have hbq : Below wr.heap.size wr wq := by rw [← hwq]; exact (Below.refl _ _).alloc (Nat.le_refl _) _
          have hgq : wq.heap[b]? = some (.cells #[.int .u32 sx, .slice A2 m2 c2] 55 (0, 0)) := by rw [← hwq, ← hb]; exact heap_alloc_new wr _
          have HGQ : Hid (wq.heap[J]? = some (.cells (cells lk).toArray 5 (0, 0))) := (hbq.block _ (row_lt HGK.out)).trans HGK.out
          have HJB : Hid (J ≠ b) := by have := row_lt HGK.out; show _ ≠ _; omega
          have HGW2 := Lib.hid (grown_below HGW.out hbq)
          have HPB2 : Hid (∀ w' : World, wq.grownBy w' (some J) → w'.heap[b]? = some (.cells #[.int .u32 sx, .slice A2 m2 c2] 55 (0, 0))) := fun w' hg => (hg.block b (row_lt hgq) (fun he => by injection he with he; exact HJB.out he.symm)).trans hgq
          have HGT : Hid (∀ w' : World, wq.grownBy w' (some J) → wm.grownBy w' (some J)) := fun w' hg => ⟨hg.os.trans HGW2.out.os, hg.tape.trans HGW2.out.tape, hg.output.trans HGW2.out.output, Nat.le_trans HGW2.out.size hg.size, fun k hk hx => (hg.block k (Nat.lt_of_lt_of_le hk HGW2.out.size) hx).trans (HGW2.out.block k hk hx)⟩
          have HBW2 : Hid (∀ w' : World, wq.grownBy w' (some J) → Below w.heap.size w w') := fun w' hg => HBW.out w' (HGT.out w' hg)
          rw [hb, hwq]
          clear hbq hgq hb hwq
          apply wp_region_relyG [11] (fun L w' => wq.grownBy w' (some J) ∧ w'.heap[J]? = some (.cells (cells (if L 11 then over lk a2 pt.data else lk)).toArray 5 (0, 0))) (RL [Is _, Is _, Is _, Is _, Is _, Is (.int .i64 x), Is _, Is _, Is (.slice (some ⟨J, a2, none⟩) (d - a2) (d - a2)), Is _, Is _, Is (goInt m2)]) [false, false, false, false, false, false, false, false, false, false, false, false, false, false, false, false, false, false, false, false, false, false, false, false, false, false, false, false, false, false, false, false, false, false, false, false, false, false, false, false, false, false, false, false, false, false, false, false, false, false, false, false, false, false, false, false, false, false, false, false, false, false, false, false, false, false, false, false, false, false, false, false, false, false, false, false, false, false, false, false, false, true, true, true, true, true, true, true, true, true, true, true, true, false, false, false, false, false, false, false, false, false, false, false, false]
          · kernel_rfl
          · kernel_rfl
          · kernel_rfl
          · refine ⟨?_, ?_, ?_, ?_, ?_, ?_, ?_, ?_, ?_, ?_, ?_, ?_, trivial⟩
            · intro L ev w' hC hL hx K hK
              have e14 : ev (.tmp 14) = _ := hx.base 14 (by kernel_rfl)
              have HK := Lib.hid hK
              have HC := Lib.hid hC
              have HL := Lib.hid hL
              have HX := Lib.hid hx
              have hc := hx.cst
              skip
              clear hx hK hC hL
              unfold Run
              simp [execOp, Upon, go_sem, *]
              exact HK.out _ _ (.inl ⟨Below.refl _ _, by decide⟩) rfl
            · intro L ev w' hC hL hx K hK
              have e16 : ev (.tmp 16) = _ := hx.base 16 (by kernel_rfl)
              have HK := Lib.hid hK
              have HC := Lib.hid hC
              have HL := Lib.hid hL
              have HX := Lib.hid hx
              have hc := hx.cst
              skip
              clear hx hK hC hL
              unfold Run
              simp [execOp, Upon, go_sem, *]
              exact HK.out _ _ (.inl ⟨Below.refl _ _, by decide⟩) rfl
            · intro L ev w' hC hL hx K hK
              have e82 := hx.held 1 _ rfl (by kernel_rfl)
              change ev (.tmp 82) = _ at e82
              have HK := Lib.hid hK
              have HC := Lib.hid hC
              have HL := Lib.hid hL
              have HX := Lib.hid hx
              have hc := hx.cst
              skip
              clear hx hK hC hL
              have cM := cell_of_row _ _ 0 _ _ _ (HPB2.out w' HC.out.1)
              simp at cM
              unfold Run
              simp [execOp, Upon, go_sem, *]
              exact HK.out _ _ (.inl ⟨Below.refl _ _, by decide⟩) rfl
            · intro L ev w' hC hL hx K hK
              have e3 : ev (.tmp 3) = _ := hx.base 3 (by kernel_rfl)
              have HK := Lib.hid hK
              have HC := Lib.hid hC
              have HL := Lib.hid hL
              have HX := Lib.hid hx
              have hc := hx.cst
              skip
              clear hx hK hC hL
              unfold Run
              simp [execOp, Upon, go_sem, *]
              exact HK.out _ _ (.inl ⟨Below.refl _ _, by decide⟩) rfl
            · intro L ev w' hC hL hx K hK
              have e84 := hx.held 3 _ rfl (by kernel_rfl)
              change ev (.tmp 84) = _ at e84
              have HK := Lib.hid hK
              have HC := Lib.hid hC
              have HL := Lib.hid hL
              have HX := Lib.hid hx
              have hc := hx.cst
              skip
              clear hx hK hC hL
              have cM := cell_of_row _ _ 0 _ _ _ (HPB.out w' (HGT.out w' HC.out.1))
              simp at cM
              unfold Run
              simp [execOp, Upon, go_sem, *]
              exact HK.out _ _ (.inl ⟨Below.refl _ _, by decide⟩) rfl
            · intro L ev w' hC hL hx K hK
              have e83 := hx.held 2 _ rfl (by kernel_rfl)
              have e85 := hx.held 4 _ rfl (by kernel_rfl)
              change ev (.tmp 83) = _ at e83
              change ev (.tmp 85) = _ at e85
              have HK := Lib.hid hK
              have HC := Lib.hid hC
              have HL := Lib.hid hL
              have HX := Lib.hid hx
              have hc := hx.cst
              have hf := hx.fn
              clear hx hK hC hL
              unfold Run
              simp [execOp, Upon, go_sem, *]
              refine (seqdiff_any _ _ _).mono ?_
              rintro e w2 ⟨rfl, rfl⟩
              rw [HDX.out]
              exact ⟨_, rfl, HK.out _ _ (.inl ⟨Below.refl _ _, by decide⟩) rfl⟩
            · intro L ev w' hC hL hx K hK
              have e8 : ev (.tmp 8) = _ := hx.base 8 (by kernel_rfl)
              have HK := Lib.hid hK
              have HC := Lib.hid hC
              have HL := Lib.hid hL
              have HX := Lib.hid hx
              have hc := hx.cst
              skip
              clear hx hK hC hL
              unfold Run
              simp [execOp, Upon, go_sem, *]
              exact HK.out _ _ (.inl ⟨Below.refl _ _, by decide⟩) rfl
            · intro L ev w' hC hL hx K hK
              have e86 := hx.held 5 _ rfl (by kernel_rfl)
              have e87 := hx.held 6 _ rfl (by kernel_rfl)
              change ev (.tmp 86) = _ at e86
              change ev (.tmp 87) = _ at e87
              have HK := Lib.hid hK
              have HC := Lib.hid hC
              have HL := Lib.hid hL
              have HX := Lib.hid hx
              have hc := hx.cst
              skip
              clear hx hK hC hL
              have hs2 := HS23.out
              unfold Run
              simp [execOp, Upon, go_sem, *]
              exact HK.out _ _ (.inl ⟨Below.refl _ _, by decide⟩) rfl
            · intro L ev w' hC hL hx K hK
              have e81 := hx.held 0 _ rfl (by kernel_rfl)
              have e88 := hx.held 7 _ rfl (by kernel_rfl)
              change ev (.tmp 81) = _ at e81
              change ev (.tmp 88) = _ at e88
              have HK := Lib.hid hK
              have HC := Lib.hid hC
              have HL := Lib.hid hL
              have HX := Lib.hid hx
              have hc := hx.cst
              skip
              clear hx hK hC hL
              have q : ev (.tmp 81) = .slice (some ⟨J, 0, none⟩) d d := e81
              have hrun : (Instr.slice 26 (.slice (some ⟨J, 0, none⟩) d d) (some (ev (.tmp 88))) none none).run Try.prog w' = .ok (.slice (some ⟨J, a2, none⟩) (d - a2) (d - a2)) w' := by
                rw [e88]
                have := run_slice_l (P := Try.prog) 26 5 1 Try.underlying26 (by kernel_rfl) (some ⟨J, 0, none⟩) d d a2 (by omega) w'
                rw [if_neg (by omega), Option.map_some, Addr.add_mid, Nat.zero_add, Nat.mul_one] at this
                exact this
              unfold Run
              rw [run_sliceE 26 _ (some _) none rfl Try.underlying26 q hrun]
              exact HK.out _ _ (.inl ⟨Below.refl _ _, by decide⟩) rfl
            · intro L ev w' hC hL hx K hK
              have e16 : ev (.tmp 16) = _ := hx.base 16 (by kernel_rfl)
              have HK := Lib.hid hK
              have HC := Lib.hid hC
              have HL := Lib.hid hL
              have HX := Lib.hid hx
              have hc := hx.cst
              skip
              clear hx hK hC hL
              unfold Run
              simp [execOp, Upon, go_sem, *]
              exact HK.out _ _ (.inl ⟨Below.refl _ _, by decide⟩) rfl
            · intro L ev w' hC hL hx K hK
              have e90 := hx.held 9 _ rfl (by kernel_rfl)
              change ev (.tmp 90) = _ at e90
              have HK := Lib.hid hK
              have HC := Lib.hid hC
              have HL := Lib.hid hL
              have HX := Lib.hid hx
              have hc := hx.cst
              skip
              clear hx hK hC hL
              have cM := cell_of_row _ _ 1 _ _ _ (HPB2.out w' HC.out.1)
              simp at cM
              unfold Run
              simp [execOp, Upon, go_sem, *]
              exact HK.out _ _ (.inl ⟨Below.refl _ _, by decide⟩) rfl
            · intro L ev w' hC hL hx K hK
              have e89 := hx.held 8 _ rfl (by kernel_rfl)
              have e91 := hx.held 10 _ rfl (by kernel_rfl)
              change ev (.tmp 89) = _ at e89
              change ev (.tmp 91) = _ at e91
              have HK := Lib.hid hK
              have HC := Lib.hid hC
              have HL := Lib.hid hL
              have HX := Lib.hid hx
              have hc := hx.cst
              skip
              clear hx hK hC hL
              have hC := HC.out
              obtain ⟨hC1, hC2⟩ := hC
              rw [HL.out] at hC2
              have hrun := copy_bytes w' J a2 d m2 c2 3 A2 lk pt.data hC2 HLL.out HM2.out (by omega) (by omega) (HTBP.out.rd.below (HBW2.out w' HC.out.1) (Nat.le_refl _))
              have HC1 := Lib.hid hC1
              have HC2 := Lib.hid hC2
              clear hC1 hC2
              unfold Run
              rw [run_copyE _ _ 26 26 rfl e89 e91 hrun]
              refine HK.out _ _ (.inr ⟨⟨grown_setRow HC1.out _, setRow_heap _ _ _ _ _ _ HC2.out⟩, fun j hj hlj u hr => rl_sg (S := fun _ _ => True) (ex := []) 0 (by exact ⟨.inr (is_sg _ _), .inr (is_sg _ _), .inr (is_sg _ _), .inr (is_sg _ _), .inr (is_sg _ _), .inr (is_sg _ _), .inr (is_sg _ _), .inr (is_sg _ _), .inr (is_sg _ _), .inr (is_sg _ _), .inr (is_sg _ _), .inr (is_sg _ _), trivial⟩) j u _ _ rfl trivial hr⟩) rfl
          · exact rl_mono ⟨is_mono _, is_mono _, is_mono _, is_mono _, is_mono _, is_mono _, is_mono _, is_mono _, is_mono _, is_mono _, is_mono _, is_mono _, trivial⟩
          · exact fun L L' w1 he h => ⟨h.1, by rw [← he 11 (by simp)]; exact h.2⟩
          · exact fun L w1 w2 hb h => ⟨grown_below h.1 hb, (hb.block _ (row_lt h.2)).trans h.2⟩
          · exact ⟨World.grownBy.refl _ _, HGQ.out⟩
          · simp
          intro us wr hG hH
          obtain ⟨-, -, -, -, -, -, -, -, -, -, -, -, -⟩ := hH
          simp only [fillM]
          generalize us 81 = v81
          generalize us 82 = v82
          generalize us 83 = v83
          generalize us 84 = v84
          generalize us 85 = v85
          generalize us 86 = v86
          generalize us 87 = v87
          generalize us 88 = v88
          generalize us 89 = v89
          generalize us 90 = v90
          generalize us 91 = v91
          generalize us 92 = v92
          obtain ⟨g1, g2⟩ := hG
          have HG3 := Lib.hid (HGT.out _ g1)
          have HG4 : Hid (wr.heap[J]? = some (.cells (cells (over lk a2 pt.data)).toArray 5 (0, 0))) := g2
          have HL3 : Hid ((over lk a2 pt.data).length = d) := by
            show _ = _
            rw [over_length _ _ _ (by rw [HLL.out, HM2.out]; exact ha3), HLL.out]
          clear g1 g2
          go_wp2
          go_roundw
          case rel => exact ⟨j + 1, over lk a2 pt.data, by omega, by go_num, HLS2.out.symm, HL3, HG4, HG3⟩
          case measure => simp [intOf]; omega
        · obtain rfl : j = nt := by omega
          have hlk : lk = joinQ p l := by
            rw [HLK.out, List.take_of_length_le (Nat.le_of_eq HNT.out), ← HTS.out, ← HL0.out, ← HLJ0.out]
            unfold joinQ laid
            rw [HF.out, HT.out, show (t - f).toNat = d from by have := HD.out; omega, show (-f).toNat = a from by have := HFA.out; omega]
          have HBN := Lib.hid (HBW.out _ HGW.out)
          have hkeep : ∀ v ps, OwnPs lo w wm w7.heap.size v ps → (∀ k, v.ownBlock = some k → k < J) → OwnPs lo w wr w7.heap.size v ps := fun v ps ⟨xs, h1, h2⟩ hlt => by
            refine ⟨xs, h1.kept HGW.out ?_, h2⟩
            cases hv : v.ownBlock with
            | none => exact .inl rfl
            | some k => exact .inr fun he => by injection he with he; have := hlt k hv; omega
          have hl7 : lo ≤ w7.heap.size := Nat.le_trans HLO.out HB7.out.size
          have hkw : Keeps w wr := Keeps.below HBN.out (Nat.le_refl _)
          have pa := (hkeep _ _ H3M.out.a (fun k hk => by rw [← HJ.out]; exact H3.out.a.lt k hk)).pcs hl7 hkw
          have pb := (hkeep _ _ H3M.out.b (fun k hk => by rw [← HJ.out]; exact H3.out.b.lt k hk)).pcs hl7 hkw
          obtain ⟨la, hla⟩ : ∃ la, l.filter (aheadQ p) = la := ⟨_, rfl⟩
          obtain ⟨lb, hlb⟩ : ∃ lb, l.filter (behindQ p) = lb := ⟨_, rfl⟩
          rw [hla] at pa
          rw [hlb] at pb
          have HPA := Lib.hid pa
          have HPB3 := Lib.hid pb
          obtain ⟨A5, c5, xs5, rfl, _⟩ := pa
          obtain ⟨A7, c7, xs7, rfl, _⟩ := pb
          obtain ⟨na, hna⟩ : ∃ na, la.length = na := ⟨_, rfl⟩
          obtain ⟨nb, hnb⟩ : ∃ nb, lb.length = nb := ⟨_, rfl⟩
          rw [hna] at HPA ⊢
          rw [hnb] at HPB3 ⊢
          have hab : na + nb ≤ 1000 := by
            have := split_le p l
            rw [hla, hlb, hna, hnb, HGM.out] at this
            omega
          have HLAS := Lib.hid (And.intro hla (And.intro hlb hlk))
          have HNAB := Lib.hid (And.intro hna hnb)
          have HPX := Lib.hid (HPB.out _ HGW.out)
          have p0 : wr.cell? ⟨w.heap.size, 0, none⟩ = some (.int .u32 sp) := by rw [cell_of_row _ _ _ _ _ _ HPX.out]; rfl
          clear hkeep hla hlb hlk hna hnb hl7 hkw
          obtain ⟨sf, hsf⟩ : ∃ sf, addS sp f = sf := ⟨_, rfl⟩
          have HSF := Lib.hid hsf
          clear hsf
          go_wp2_with fail
          refine (seqadd_any _ _ _).mono ?_
          rintro e w3 ⟨rfl, rfl⟩
          rw [HSF.out]
          go_wp2_with (refine wpList_build_one rfl 27 55 _ rfl #[.int .u32 sf, .slice (some ⟨J, 0, none⟩) d d] rfl Try.underlying27 2 (by decide) (by decide) (by kernel_rfl) rfl ?_)
          obtain ⟨w9, hw9⟩ : ∃ w9, (wr.alloc (.cells #[.int .u32 sf, .slice (some ⟨J, 0, none⟩) d d] 55)).alloc (.cells #[.slice A5 na c5, .slice (some ⟨wr.heap.size, 0, none⟩) 1 1, .slice A7 nb c7] 27) = w9 := ⟨_, rfl⟩
          have hb9 : Below wr.heap.size wr w9 := by rw [← hw9]; exact ((Below.refl _ _).alloc (Nat.le_refl _) _).alloc (by simp) _
          have hg9 : w9.heap[wr.heap.size]? = some (.cells #[.int .u32 sf, .slice (some ⟨J, 0, none⟩) d d] 55 (0, 0)) := by rw [← hw9]; exact old_alloc (heap_alloc_new wr _) _
          have hj9 : w9.heap[J]? = some (.cells (cells lk).toArray 5 (0, 0)) := (hb9.block _ (row_lt HGK.out)).trans HGK.out
          have hk9 : Keeps wr w9 := Keeps.below hb9 (Nat.le_refl _)
          have hrd9 : Rd w9 0 w9.heap.size (some ⟨wr.heap.size + 1, 0, none⟩) [.slice A5 na c5, .slice (some ⟨wr.heap.size, 0, none⟩) 1 1, .slice A7 nb c7] := by
            have := rd_new (wr.alloc (.cells #[.int .u32 sf, .slice (some ⟨J, 0, none⟩) d d] 55)) [.slice A5 na c5, .slice (some ⟨wr.heap.size, 0, none⟩) 1 1, .slice A7 nb c7] 27 (0, 0)
            rw [World.size_alloc] at this
            rw [← hw9]
            exact this.wide (Nat.zero_le _) (by simp)
          have hlj9 : lo ≤ J := by have := HWJ.out; have := HLO.out; omega
          have hlw9 : lo ≤ wr.heap.size := by have := HBN.out.size; have := HLO.out; omega
          have hpt9 : PcT lo w9 [.int .u32 sf, .slice (some ⟨J, 0, none⟩) d d] ⟨sf, lk⟩ := ⟨_, rfl, some ⟨J, 0, none⟩, d, by rw [HLL.out], fun k u hk => ⟨J, 0, (cells lk).toArray, rfl, hlj9, hj9, by simpa using hk⟩, by rw [HLL.out]; exact Nat.le_refl _, by unfold maxLen; omega, fun h => by cases h⟩
          have hmid : PcsT lo w9 (.slice (some ⟨wr.heap.size, 0, none⟩) 1 1) [⟨sf, lk⟩] := ⟨some ⟨wr.heap.size, 0, none⟩, 1, [.int .u32 sf, .slice (some ⟨J, 0, none⟩) d d], rfl, fun k u hk => ⟨wr.heap.size, 0, _, rfl, hlw9, hg9, by simpa using hk⟩, RowOf.one hpt9 rfl, Nat.le_refl _, by decide, fun h => by cases h⟩
          have hsl : Slices lo w9 [.slice A5 na c5, .slice (some ⟨wr.heap.size, 0, none⟩) 1 1, .slice A7 nb c7] [la, [⟨sf, lk⟩], lb] := ⟨rfl, fun i ps hi => by
            rcases i with _ | _ | _ | i
            · simp at hi; subst hi; exact ⟨_, rfl, HPA.out.keeps hk9⟩
            · simp at hi; subst hi; exact ⟨_, rfl, hmid⟩
            · simp at hi; subst hi; exact ⟨_, rfl, HPB3.out.keeps hk9⟩
            · simp at hi⟩
          have hfl : ([la, [⟨sf, lk⟩], lb] : List (List Pc)).flatten = la ++ [⟨sf, lk⟩] ++ lb := by simp
          have hcc := concatp_any lo ⟨wr.heap.size + 1, 0, none⟩ 3 _ [la, [⟨sf, lk⟩], lb] w9 hrd9 hsl (by rw [hfl]; simp only [List.length_append, List.length_cons, List.length_nil, HNAB.out.1, HNAB.out.2]; omega) (by simp)
          rw [hfl] at hcc
          have hgot : la ++ [⟨sf, lk⟩] ++ lb = layQ l p := by
            unfold layQ
            rw [HLAS.out.1, HLAS.out.2.1, ← HLAS.out.2.2, HSP.out, HF.out, HSF.out]
          rw [hgot] at hcc
          have HCC := Lib.hid hcc
          have HB9 := Lib.hid (HBN.out.trans (hb9.mono HBN.out.size))
          have HLW9 : Hid (lo ≤ w9.heap.size) := Nat.le_trans hlw9 hb9.size
          rw [hw9]
          clear hb9 hg9 hj9 hk9 hrd9 hlj9 hlw9 hpt9 hmid hsl hfl hcc hgot hw9 HPA HPB3 HGK HLK hab p0
          refine HCC.out.mono ?_
          rintro e' w10 ⟨v10, xs10, rfl, hown, hrow, hb10⟩
          have HV10 : Hid (PcsT lo w10 v10 (layQ l p)) := by
            obtain ⟨A10, c10, rfl, h1, h2, h3⟩ := ownk_form hown
            exact ⟨A10, c10, xs10, rfl, (Tr.own hown).wide HLW9.out, hrow, h1, h2, h3⟩
          have HB10 := Lib.hid (HB9.out.trans (hb10.mono HB9.out.size))
          clear hown hrow hb10
          go_wp2
          go_ret
          exact ⟨_, rfl, HV10.out, HB10.out⟩
end Go.Proofs.Ytdgfhcojmfgimaa
