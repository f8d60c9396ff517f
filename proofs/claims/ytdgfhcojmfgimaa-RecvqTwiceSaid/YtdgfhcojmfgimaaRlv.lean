/-
  lives of layer 17. No condition.
-/
import Derived.Test.YtdgfhcojmfgimaaRec
namespace Go.Proofs.Ytdgfhcojmfgimaa
open Go.RowKit

theorem lv_at : (acceptX (acceptX (newX 100) 102 [99, 100] false) 100 [97, 98, 88] false).next = 104 ∧ (acceptX (acceptX (newX 100) 102 [99, 100] false) 100 [97, 98, 88] false).data = [97, 98, 99, 100] ∧ (acceptX (acceptX (acceptX (newX 100) 102 [99, 100] false) 100 [97, 98, 88] false) 104 [] true).done = true ∧ (acceptX (acceptX (acceptX (newX 100) 102 [99, 100] false) 100 [97, 98, 88] false) 104 [] true).next = 105 := by
  decide +kernel
/-- what the calls answer, by names -/
theorem lv_names : ∃ X0 X1 X2 X3 : Rx, OkX X0 ∧ OkX X1 ∧ OkX X2 ∧ OkX X3 ∧ X0 = newX 100 ∧ X1 = acceptX X0 102 [99, 100] false ∧ X2 = acceptX X1 100 [97, 98, 88] false ∧ X3 = acceptX X2 104 [] true ∧ X2.next = 104 ∧ X2.data = [97, 98, 99, 100] ∧ X3.done = true ∧ X3.next = 105 :=
  have h0 : OkX (newX 100) := new_ok ⟨by decide, by decide⟩
  have h1 := accept_ok h0 102 [99, 100] false
  have h2 := accept_ok h1 100 [97, 98, 88] false
  ⟨_, _, _, _, h0, h1, h2, accept_ok h2 104 [] true, rfl, rfl, rfl, rfl, lv_at.1, lv_at.2.1, lv_at.2.2.1, lv_at.2.2.2⟩
set_option maxRecDepth 100000 in
set_option maxHeartbeats 4000000 in
theorem lives_any (w : World) : Calls Try.prog 8 #[] w fun e w' => e = .returned (.bool true) ∧ Below w.heap.size w w' := by
  have hcs := conv_same
  obtain ⟨X0, X1, X2, X3, h0, h1, h2, h3, e0, e1, e2, e3, n2, d2, d3, n3⟩ := lv_names
  have HO0 := Lib.hid h0
  have HO1 := Lib.hid h1
  have HO2 := Lib.hid h2
  have HO3 := Lib.hid h3
  have HE0 := Lib.hid e0
  have HE1 := Lib.hid e1
  have HE2 := Lib.hid e2
  have HE3 := Lib.hid e3
  have HN2 : Hid ((conc X2).next = 104) := n2
  have HD2 : Hid ((conc X2).data = [97, 98, 99, 100]) := d2
  have HD3 : Hid ((conc X3).done = true) := d3
  have HN3 : Hid ((conc X3).next = 105) := n3
  have HW2 : Hid (winX X2 = 252) := by
    show _ = _
    unfold winX
    rw [d2]
    rfl
  clear h0 h1 h2 h3 e0 e1 e2 e3 n2 d2 d3 n3
  go_enter Try.func8, Try.ntmps8
  go_wp2_with fail
  refine (new_any 100 _ ⟨by decide, by decide⟩).mono ?_
  rintro e w1 ⟨cs1, rfl, hr, hb⟩
  rw [← HE0.out] at hr
  have F1 : Hid (Frm w w1 [] [(cs1.toList, rqD (conc X0))]) := Lib.hid ((Frm.start (Below.refl _ _)).new hb hr)
  clear hr hb
  have F2 := Lib.hid (F1.out.call ((Below.refl _ _).alloc (Nat.le_refl _) (.cells #[.int .u8 99, .int .u8 100] 5 (2, 3))))
  clear F1
  go_wp2_with fail
  refine (accept_any X0 cs1 _ _ 102 _ [99, 100] false _ (F2.out.val (i := 0) rfl) HO0.out ⟨by decide, by decide⟩ (lit_bytes (heap_alloc_new w1 _) (by decide)) (by decide)).mono ?_
  rintro e w2 ⟨cs2, rfl, hr, hb⟩
  rw [← HE1.out] at hr
  obtain ⟨vD2, vA2, rfl, h1⟩ := rq_of hr
  have F3 : Hid (Frm w w2 [] [((rqC (conc X1) vD2 vA2).toList, rqD (conc X1))]) := Lib.hid ((F2.out.res hb hr).drop 0 rfl (fun p hp => by simp at hp; simp [hp]))
  have H1 := Lib.hid h1
  clear hr hb h1 F2
  go_upto_region 2 with (first | (refine wpList_store_new rfl 29 _ _ rfl w2 #[.int .u32 0, .slice none 0 0, .slice none 0 0, .bool false, .int .u32 0, .bool false] (rqC (conc X1) vD2 vA2) rfl rfl (by kernel_rfl) rfl H1.out ?_) | go_in)
  have F4 := Lib.hid (F3.out.alloc (rqC (conc X1) vD2 vA2) 29)
  clear F3 H1
  obtain ⟨g, hg⟩ : ∃ g, w2.heap.size = g := ⟨_, rfl⟩
  rw [hg] at F4 ⊢
  clear hg
  generalize w2.alloc (.cells (rqC (conc X1) vD2 vA2) 29) = w3 at F4 ⊢
  have F5 := Lib.hid (F4.out.call ((Below.refl _ _).alloc (Nat.le_refl _) (.cells #[.int .u8 97, .int .u8 98, .int .u8 88] 5 (3, 4))))
  go_wp2_with (refine wpList_load_row rfl 29 _ rfl g rfl 29 (rqC (conc X1) vD2 vA2) (0, 0) _ (F4.out.at (i := 0) rfl) Try.underlying29 rfl (by kernel_rfl) ?_)
  refine (accept_any X1 _ _ _ 100 _ [97, 98, 88] false _ (F5.out.val (i := 0) rfl) HO1.out ⟨by decide, by decide⟩ (lit_bytes (heap_alloc_new w3 _) (by decide)) (by decide)).mono ?_
  rintro e w4 ⟨cs4, rfl, hr, hb⟩
  rw [← HE2.out] at hr
  obtain ⟨vD4, vA4, rfl, h1⟩ := rq_of hr
  have F6 : Hid (Frm w w4 [(g, rqC (conc X1) vD2 vA2, 29)] [((rqC (conc X2) vD4 vA4).toList, rqD (conc X2))]) := Lib.hid ((F5.out.res hb hr).drop 0 rfl (fun p hp => by simp at hp; simp [hp]))
  have H1 := Lib.hid h1
  clear hr hb h1 F4 F5
  go_upto_region 3 with (first | (refine wpList_store_row rfl 29 _ _ rfl g (rqC (conc X2) vD4 vA4) rfl rfl 29 (rqC (conc X1) vD2 vA2) (F6.out.at (i := 0) rfl) (by kernel_rfl) rfl H1.out ?_) | go_in)
  have F7 : Hid (Frm w (w4.setRow g (rqC (conc X2) vD4 vA4)) [(g, rqC (conc X2) vD4 vA4, 29)] [((rqC (conc X2) vD4 vA4).toList, rqD (conc X2))]) := Lib.hid (F6.out.put (i := 0) rfl _)
  generalize w4.setRow g (rqC (conc X2) vD4 vA4) = w5 at F7 ⊢
  clear F6 H1
  go_wp2_with (refine wpList_load_row rfl 29 _ rfl g rfl 29 (rqC (conc X2) vD4 vA4) (0, 0) _ (F7.out.at (i := 0) rfl) Try.underlying29 rfl (by kernel_rfl) ?_)
  refine (accept_any X2 _ _ (Lt 0) 104 _ [] true _ (F7.out.val (i := 0) rfl) HO2.out ⟨by decide, by decide⟩ nil_bytes (by decide)).mono ?_
  rintro e w6 ⟨cs6, rfl, hr, hb⟩
  rw [← HE3.out] at hr
  obtain ⟨vD6, vA6, rfl, h1⟩ := rq_of hr
  have F8 := Lib.hid (F7.out.res hb hr)
  have H1 := Lib.hid h1
  clear hr hb h1 F7
  go_upto_region 4 with (first | (refine wpList_store_new rfl 29 _ _ rfl w6 #[.int .u32 0, .slice none 0 0, .slice none 0 0, .bool false, .int .u32 0, .bool false] (rqC (conc X3) vD6 vA6) rfl rfl (by kernel_rfl) rfl H1.out ?_) | go_in)
  have F9 := Lib.hid (F8.out.alloc (rqC (conc X3) vD6 vA6) 29)
  clear F8 H1
  obtain ⟨g2, hg⟩ : ∃ g, w6.heap.size = g := ⟨_, rfl⟩
  rw [hg] at F9 ⊢
  clear hg
  generalize w6.alloc (.cells (rqC (conc X3) vD6 vA6) 29) = w7 at F9 ⊢
  have hcv : (convert 26 9 vD4).run Try.prog w7 = .ok (.string ⟨#[97, 98, 99, 100]⟩) w7 := by
    have := conv_bytes (rq_data (F9.out.val (i := 1) rfl)) w7 (Below.refl _ _)
    rw [HD2.out] at this
    exact this
  obtain ⟨c0, c1, c2, c3, c4, c5⟩ := rq_cells (F9.out.at (i := 1) rfl)
  obtain ⟨k0, -, -, -, -, k5⟩ := rq_cells (F9.out.at (i := 0) rfl)
  rw [HN2.out] at c0
  rw [HN3.out] at k0
  rw [HD3.out] at k5
  have HWC := Lib.hid (window_any X2 (rqC (conc X2) vD4 vA4) _ w7 (F9.out.val (i := 1) rfl) HO2.out)
  rw [show rqC (conc X2) vD4 vA4 = #[.int .u32 104, vD4, vA4, .bool (conc X2).known, .int .u32 (conc X2).fin, .bool (conc X2).done] from by unfold rqC; rw [HN2.out]] at HWC
  go_wp2_with fail
  refine HWC.out.mono ?_
  rintro e w8 ⟨rfl, hb⟩
  rw [HW2.out]
  have HB := Lib.hid (F9.out.call hb).below
  clear c0 c1 c2 c3 c4 c5 k0 k5 hcv hb
  go_wp2
  go_ret
  exact ⟨rfl, HB.out⟩
end Go.Proofs.Ytdgfhcojmfgimaa
