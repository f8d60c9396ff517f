/-
  frag.fits, all of it. Every piece and hole that can be read. No condition.
-/
import Derived.Test.YtogplhdcicajgaaFits
namespace Go.Proofs.Ytogplhdcicajgaa
open Go.RowKit

set_option maxRecDepth 100000 in
set_option maxHeartbeats 4000000 in
theorem fits_any (cs ds : Array Value) (p : Pk) (h : Hk) (lo hi : Nat) (w : World) (hp : PkV w lo hi cs p) (hhi : hi ≤ w.heap.size) (h0 : 0 ≤ p.off) (h1 : p.off ≤ 1000) (hm : p.data.length ≤ 1000000000) (hh : HkT w ds.toList h) :
    Calls Try.prog 18 #[.agg cs, .agg ds] w fun e w' => e = .returned (.bool (fitsB p h)) ∧ Below w.heap.size w w' := by
  obtain ⟨A, c, xs, _, _, _, _, k12, k13, htr, hrow, hlc, hcm, hA⟩ := hh.parts
  have hok := hh.ok
  rw [Array.getElem?_toList] at k12 k13
  obtain ⟨_, _, m1, _, _, _⟩ := hp.parts
  have HS1 : Hid (cs.size = 14) := hp.size
  have HFB : Hid (fitsB p h = if 0 ≤ h.fin then decide (endP p = h.fin) || (p.more && decide (endP p < h.fin)) else p.more || !h.got.any (furtherB p)) := rfl
  obtain ⟨w6, hw6⟩ : ∃ w6, (w.alloc (.cells cs 27)).alloc (.cells ds 49) = w6 := ⟨_, rfl⟩
  have HB6 : Hid (Below w.heap.size w w6) := by rw [← hw6]; exact ((Below.refl _ _).alloc (Nat.le_refl _) _).alloc (by simp) _
  have hx : w6.heap[w.heap.size]? = some (.cells cs 27 (0, 0)) := by rw [← hw6]; exact old_alloc (heap_alloc_new w _) _
  have hy : w6.heap[w.heap.size + 1]? = some (.cells ds 49 (0, 0)) := by
    have := heap_alloc_new (w.alloc (.cells cs 27)) (.cells ds 49)
    rw [World.size_alloc] at this
    rw [← hw6]
    exact this
  have z1 : w6.cell? ⟨w.heap.size, 1, none⟩ = some (.bool p.more) := by rw [cell_of_row _ _ _ _ _ _ hx]; exact m1
  have z12 : w6.cell? ⟨w.heap.size + 1, 12, none⟩ = some (.int .i64 h.fin) := by rw [cell_of_row _ _ _ _ _ _ hy]; exact k12
  have z13 : w6.cell? ⟨w.heap.size + 1, 13, none⟩ = some (.slice A h.got.length c) := by rw [cell_of_row _ _ _ _ _ _ hy]; exact k13
  have HX := Lib.hid hx
  have HP6 := Lib.hid (hp.below HB6.out hhi)
  have HHI : Hid (hi ≤ w6.heap.size) := Nat.le_trans hhi HB6.out.size
  have H01 := Lib.hid (And.intro h0 (And.intro h1 hm))
  have HOK := Lib.hid hok
  have HPT : Hid (PtsT w6 (.slice A h.got.length c) h.got) := ⟨A, c, xs, rfl, htr.below HB6.out (Nat.le_refl _), hrow.imp fun _ _ _ q => q.keeps (Keeps.below HB6.out (Nat.le_refl _)), hlc, hcm, hA⟩
  obtain ⟨r, hrr⟩ : ∃ r, fitsB p h = r := ⟨_, rfl⟩
  rw [hrr] at HFB ⊢
  have HGB := Lib.hid (rfl : h.got = h.got)
  clear hrr
  by_cases c1 : 0 ≤ h.fin
  · have HV0 : Hid (r = (decide (endP p = h.fin) || (p.more && decide (endP p < h.fin)))) := by show _ = _; rw [HFB.out, if_pos c1]
    have hE : 0 ≤ endP p ∧ endP p ≤ 1000001000 := by unfold endP; omega
    obtain ⟨E, hEE⟩ : ∃ E, endP p = E := ⟨_, rfl⟩
    rw [hEE] at HV0 hE
    have HEE := Lib.hid hEE
    have hf3 : h.fin ≤ 1000 := hok.2.2.2.2.2.1
    obtain ⟨f, hff⟩ : ∃ f, h.fin = f := ⟨_, rfl⟩
    rw [hff] at HV0 c1 z12 hf3
    obtain ⟨mr, hmr⟩ : ∃ mr, p.more = mr := ⟨_, rfl⟩
    rw [hmr] at HV0 z1
    obtain ⟨hE0, hE1⟩ := hE
    have kg : ∀ w', (∃ p : Regrown, w' = Sort.grow (redrawn w6 p.d) p.os) → w'.heap[w.heap.size]? = some (.cells cs 27 (0, 0)) := fun w' ⟨q, hq⟩ => by rw [hq]; exact row_regrown hx _ _
    have KG := Lib.hid kg
    have hcs : ∀ d os, Calls Try.prog 12 #[.agg cs] (Sort.grow (redrawn w6 d) os) fun e w'' => e = .returned (.int .i64 E) ∧ ∃ p : Regrown, w'' = Sort.grow (redrawn w6 p.d) p.os := fun d os => by
      rw [← HEE.out]
      exact Calls.regrown_of (end_any cs p lo hi _ (HP6.out.below (below_regrown w6 d os) HHI.out) h0 h1 hm)
    have HCS := Lib.hid hcs
    have k1 := cell_regrown z1
    have k12 := cell_regrown z12
    have hcase : ((E == f) = true ∧ r = true) ∨ ((E == f) = false ∧ mr = false ∧ r = false) ∨ ((E == f) = false ∧ mr = true ∧ E < f ∧ r = true) ∨ ((E == f) = false ∧ mr = true ∧ f < E ∧ r = false) := by
      by_cases e1 : E = f
      · exact .inl ⟨beqT e1, by rw [HV0.out]; simp [e1]⟩
      · have e2 := beqF e1
        have e3 : decide (E = f) = false := decide_eq_false e1
        cases mr
        · exact .inr (.inl ⟨e2, rfl, by rw [HV0.out, e3]; rfl⟩)
        · by_cases e4 : E < f
          · exact .inr (.inr (.inl ⟨e2, rfl, e4, by rw [HV0.out, e3, decide_eq_true e4]; rfl⟩))
          · exact .inr (.inr (.inr ⟨e2, rfl, by omega, by rw [HV0.out, e3, decide_eq_false e4]; rfl⟩))
    clear hp hh hok k13 htr hrow hlc hcm hA m1 HFB hx hy z13 hEE hff hmr kg hcs HV0 hm h0 h1 hhi
    rcases hcase with ⟨e1, rfl⟩ | ⟨e1, rfl, rfl⟩ | ⟨e1, rfl, e2, rfl⟩ | ⟨e1, rfl, e2, rfl⟩
    · go_enter Try.func18, Try.ntmps18
      go_wp2_with fail
      (try rw [hw6])
      refine wp_region_quiet_below (by kernel_rfl) (by kernel_rfl) ?_
      (refine wpQuiet_step (fun K hK => ?_); refine quiet_load_row (by rfl) 27 _ rfl w.heap.size rfl _ cs _ _ KG.out Try.underlying27 rfl (size_pk HS1.out) ?_; refine hK _ ?_; clear hK K)
      repeat (first | go_big_quiet_step (first | (go_at_call 12; exact HCS.out _ _)) | quiet_step (first | (go_at_call 12; exact HCS.out _ _)))
      refine wpQuiet_nil ?_
      intro _ hw'
      obtain ⟨⟨dq, osq⟩, hw''⟩ := hw'
      subst hw''
      have HB := Lib.hid (HB6.out.trans ((below_regrown w6 dq osq).mono HB6.out.size))
      go_wp2
      go_ret
      exact ⟨rfl, HB.out⟩
    · go_enter Try.func18, Try.ntmps18
      go_wp2_with fail
      (try rw [hw6])
      refine wp_region_quiet_below (by kernel_rfl) (by kernel_rfl) ?_
      (refine wpQuiet_step (fun K hK => ?_); refine quiet_load_row (by rfl) 27 _ rfl w.heap.size rfl _ cs _ _ KG.out Try.underlying27 rfl (size_pk HS1.out) ?_; refine hK _ ?_; clear hK K)
      repeat (first | go_big_quiet_step (first | (go_at_call 12; exact HCS.out _ _)) | quiet_step (first | (go_at_call 12; exact HCS.out _ _)))
      refine wpQuiet_nil ?_
      intro _ hw'
      obtain ⟨⟨dq, osq⟩, hw''⟩ := hw'
      subst hw''
      have HB := Lib.hid (HB6.out.trans ((below_regrown w6 dq osq).mono HB6.out.size))
      go_wp2
      go_ret
      exact ⟨rfl, HB.out⟩
    · have e3 : decide (E < f) = true := decide_eq_true e2
      go_enter Try.func18, Try.ntmps18
      go_wp2_with fail
      (try rw [hw6])
      refine wp_region_quiet_below (by kernel_rfl) (by kernel_rfl) ?_
      (refine wpQuiet_step (fun K hK => ?_); refine quiet_load_row (by rfl) 27 _ rfl w.heap.size rfl _ cs _ _ KG.out Try.underlying27 rfl (size_pk HS1.out) ?_; refine hK _ ?_; clear hK K)
      iterate 8 (first | go_big_quiet_step (first | (go_at_call 12; exact HCS.out _ _)) | quiet_step (first | (go_at_call 12; exact HCS.out _ _)))
      (refine wpQuiet_step (fun K hK => ?_); refine quiet_load_row (by rfl) 27 _ rfl w.heap.size rfl _ cs _ _ KG.out Try.underlying27 rfl (size_pk HS1.out) ?_; refine hK _ ?_; clear hK K)
      repeat (first | go_big_quiet_step (first | (go_at_call 12; exact HCS.out _ _)) | quiet_step (first | (go_at_call 12; exact HCS.out _ _)))
      refine wpQuiet_nil ?_
      intro _ hw'
      obtain ⟨⟨dq, osq⟩, hw''⟩ := hw'
      subst hw''
      have HB := Lib.hid (HB6.out.trans ((below_regrown w6 dq osq).mono HB6.out.size))
      go_wp2
      go_ret
      exact ⟨rfl, HB.out⟩
    · have e3 : decide (E < f) = false := decide_eq_false (by omega)
      go_enter Try.func18, Try.ntmps18
      go_wp2_with fail
      (try rw [hw6])
      refine wp_region_quiet_below (by kernel_rfl) (by kernel_rfl) ?_
      (refine wpQuiet_step (fun K hK => ?_); refine quiet_load_row (by rfl) 27 _ rfl w.heap.size rfl _ cs _ _ KG.out Try.underlying27 rfl (size_pk HS1.out) ?_; refine hK _ ?_; clear hK K)
      iterate 8 (first | go_big_quiet_step (first | (go_at_call 12; exact HCS.out _ _)) | quiet_step (first | (go_at_call 12; exact HCS.out _ _)))
      (refine wpQuiet_step (fun K hK => ?_); refine quiet_load_row (by rfl) 27 _ rfl w.heap.size rfl _ cs _ _ KG.out Try.underlying27 rfl (size_pk HS1.out) ?_; refine hK _ ?_; clear hK K)
      repeat (first | go_big_quiet_step (first | (go_at_call 12; exact HCS.out _ _)) | quiet_step (first | (go_at_call 12; exact HCS.out _ _)))
      refine wpQuiet_nil ?_
      intro _ hw'
      obtain ⟨⟨dq, osq⟩, hw''⟩ := hw'
      subst hw''
      have HB := Lib.hid (HB6.out.trans ((below_regrown w6 dq osq).mono HB6.out.size))
      go_wp2
      go_ret
      exact ⟨rfl, HB.out⟩
  · have HV0 : Hid (r = (p.more || !h.got.any (furtherB p))) := by show _ = _; rw [HFB.out, if_neg c1]
    have c2 : h.fin < 0 := by omega
    have HCT := Lib.hid (contains_any _ h.got cs p lo hi w.heap.size w6 HPT.out hok.2.2.2.2.2.2.1 hok.2.2.2.2.2.2.2 h0 h1 hm HP6.out HHI.out hx)
    obtain ⟨f, hff⟩ : ∃ f, h.fin = f := ⟨_, rfl⟩
    rw [hff] at z12 c2
    generalize h.got.any (furtherB p) = an at HV0 HCT
    clear hp hh hok k13 htr hrow hlc hcm hA m1 HFB hx hy hff hm h0 h1 hhi c1 k12
    cases hmr : p.more
    all_goals rw [hmr] at HV0 z1
    · have HV : Hid (r = !an) := by show _ = _; rw [HV0.out]; rfl
      clear hmr HV0
      go_enter Try.func18, Try.ntmps18
      go_wp2_with fail
      (try rw [hw6])
      refine HCT.out.mono ?_
      rintro e w7 ⟨rfl, hb7⟩
      have HB := Lib.hid (HB6.out.trans (hb7.mono HB6.out.size))
      clear hb7
      go_wp2
      go_ret
      exact ⟨by rw [HV.out]; rfl, HB.out⟩
    · have HV : Hid (r = true) := by show _ = _; rw [HV0.out]; rfl
      clear hmr HV0
      go_enter Try.func18, Try.ntmps18
      go_wp2
      (try rw [hw6])
      go_ret
      exact ⟨by rw [HV.out]; rfl, by first | exact HB6.out | (rw [hw6]; exact HB6.out)⟩
end Go.Proofs.Ytogplhdcicajgaa
