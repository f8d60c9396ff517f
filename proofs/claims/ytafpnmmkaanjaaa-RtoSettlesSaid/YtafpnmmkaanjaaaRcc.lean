/-
  The code's Right of clocks. Every clock.
-/
import Derived.Test.YtafpnmmkaanjaaaRcb
import Derived.Test.YtafpnmmkaanjaaaRfc
import Derived.Test.YtafpnmmkaanjaaaVar
namespace Go.Proofs.Ytafpnmmkaanjaaa
open Go.RowKit

set_option maxRecDepth 100000 in
set_option maxHeartbeats 8000000 in
theorem right_any (c : Ck) (w : World) (hs : I64 c.s) (hd : I64 c.d) (hw : I64 c.w) : Calls Try.prog 8 #[.agg (ckA c)] w fun e w' => e = .returned (.bool (rightX c)) ∧ Below w.heap.size w w' := by
  obtain ⟨s, d, v⟩ := c
  have HR := Lib.hid (right_split s d v)
  rw [HR.out]
  have hck : ckA ⟨s, d, v⟩ = #[.int .i64 s, .int .i64 d, .int .i64 v] := rfl
  rw [hck]
  clear HR hck hs hd hw
  obtain ⟨w1, hw1⟩ : ∃ w1, w.alloc (.cells #[.int .i64 s, .int .i64 d, .int .i64 v] 23) = w1 := ⟨_, rfl⟩
  have HB1 : Hid (Below w.heap.size w w1) := by rw [← hw1]; exact (Below.refl _ _).alloc (Nat.le_refl _) _
  have HX0 : Hid (w1.heap[w.heap.size]? = some (.cells #[.int .i64 s, .int .i64 d, .int .i64 v] 23 (0, 0))) := by rw [← hw1]; exact heap_alloc_new w _
  have HW := Lib.hid hw1
  clear hw1
  by_cases hv : 4 ≤ v ∧ v ≤ 240
  · obtain ⟨h3, h4⟩ := hv
    have HBC : Hid (∀ w, Calls Try.prog 15 #[.int .i64 v] w fun e w' => e = .returned (.int .i64 v) ∧ Below w.heap.size w w') := fun w => by
      have := bounded_any v w
      rwa [bound_mid h3 h4] at this
    by_cases h1 : s = -1
    · subst h1
      by_cases h2 : d = -1
      · subst h2
        go_enter Try.func8, Try.ntmps8
        go_upto_region 1 with (fail)
        change Code.wp _ _ _ _ (w.alloc (.cells #[.int .i64 (-1), .int .i64 (-1), .int .i64 v] 23))
        rw [HW.out]
        clear HW
        refine wp_region_quiet_below (by kernel_rfl) (by kernel_rfl) ?_
        (first | go_big_quiet_step (fail) | quiet_step (fail))
        (refine wpQuiet_step (fun K hK => ?_); refine quiet_load_cell (by kernel_rfl) 2 _ rfl ((⟨w.heap.size, 0, none⟩ : Addr).add 2) (by first | rfl | (simp [Act.eval, Addr.add_mid])) (.int .i64 v) _ (var_cell HX0.out 2 rfl) Try.underlying2 rfl ?_; refine hK _ ?_; clear hK K; go_frame)
        (first | go_big_quiet_step (fail) | quiet_step (fail))
        (refine wpQuiet_step (fun K hK => ?_); refine quiet_load_cell (by kernel_rfl) 2 _ rfl ((⟨w.heap.size, 0, none⟩ : Addr).add 2) (by first | rfl | (simp [Act.eval, Addr.add_mid])) (.int .i64 v) _ (var_cell HX0.out 2 rfl) Try.underlying2 rfl ?_; refine hK _ ?_; clear hK K; go_frame)
        quiet_step (first | (go_at_call 15; exact Calls.regrown_of (HBC.out _)))
        (first | go_big_quiet_step (fail) | quiet_step (fail))
        refine wpQuiet_nil ?_
        intro w9 hw9
        obtain ⟨⟨dq, osq⟩, rfl⟩ := hw9
        have HB2 := Lib.hid ((HB1.out).trans ((below_regrown w1 dq osq).mono (HB1.out).size))
        have HX2 := Lib.hid (old_below HX0.out (below_regrown w1 dq osq) (row_lt HX0.out))
        generalize Sort.grow (redrawn w1 dq) osq = w2 at *
        obtain ⟨c0, c1, c2⟩ := three_cells HX2.out
        go_wp2
        go_ret
        exact ⟨by simp [*] <;> omega, HB2.out⟩
      · go_enter Try.func8, Try.ntmps8
        go_upto_region 1 with (fail)
        change Code.wp _ _ _ _ (w.alloc (.cells #[.int .i64 (-1), .int .i64 d, .int .i64 v] 23))
        rw [HW.out]
        clear HW
        refine wp_region_quiet_below (by kernel_rfl) (by kernel_rfl) ?_
        (first | go_big_quiet_step (fail) | quiet_step (fail))
        (refine wpQuiet_step (fun K hK => ?_); refine quiet_load_cell (by kernel_rfl) 2 _ rfl ((⟨w.heap.size, 0, none⟩ : Addr).add 2) (by first | rfl | (simp [Act.eval, Addr.add_mid])) (.int .i64 v) _ (var_cell HX0.out 2 rfl) Try.underlying2 rfl ?_; refine hK _ ?_; clear hK K; go_frame)
        (first | go_big_quiet_step (fail) | quiet_step (fail))
        (refine wpQuiet_step (fun K hK => ?_); refine quiet_load_cell (by kernel_rfl) 2 _ rfl ((⟨w.heap.size, 0, none⟩ : Addr).add 2) (by first | rfl | (simp [Act.eval, Addr.add_mid])) (.int .i64 v) _ (var_cell HX0.out 2 rfl) Try.underlying2 rfl ?_; refine hK _ ?_; clear hK K; go_frame)
        quiet_step (first | (go_at_call 15; exact Calls.regrown_of (HBC.out _)))
        (first | go_big_quiet_step (fail) | quiet_step (fail))
        refine wpQuiet_nil ?_
        intro w9 hw9
        obtain ⟨⟨dq, osq⟩, rfl⟩ := hw9
        have HB2 := Lib.hid ((HB1.out).trans ((below_regrown w1 dq osq).mono (HB1.out).size))
        have HX2 := Lib.hid (old_below HX0.out (below_regrown w1 dq osq) (row_lt HX0.out))
        generalize Sort.grow (redrawn w1 dq) osq = w2 at *
        obtain ⟨c0, c1, c2⟩ := three_cells HX2.out
        go_wp2
        go_ret
        exact ⟨by simp [*] <;> omega, HB2.out⟩
    · by_cases h5 : 0 ≤ s
      · by_cases h6 : s ≤ 1927
        · by_cases h7 : 0 ≤ d
          · by_cases h8 : d ≤ 963
            · go_enter Try.func8, Try.ntmps8
              go_upto_region 1 with (fail)
              change Code.wp _ _ _ _ (w.alloc (.cells #[.int .i64 s, .int .i64 d, .int .i64 v] 23))
              rw [HW.out]
              clear HW
              refine wp_region_quiet_below (by kernel_rfl) (by kernel_rfl) ?_
              (first | go_big_quiet_step (fail) | quiet_step (fail))
              (refine wpQuiet_step (fun K hK => ?_); refine quiet_load_cell (by kernel_rfl) 2 _ rfl ((⟨w.heap.size, 0, none⟩ : Addr).add 2) (by first | rfl | (simp [Act.eval, Addr.add_mid])) (.int .i64 v) _ (var_cell HX0.out 2 rfl) Try.underlying2 rfl ?_; refine hK _ ?_; clear hK K; go_frame)
              (first | go_big_quiet_step (fail) | quiet_step (fail))
              (refine wpQuiet_step (fun K hK => ?_); refine quiet_load_cell (by kernel_rfl) 2 _ rfl ((⟨w.heap.size, 0, none⟩ : Addr).add 2) (by first | rfl | (simp [Act.eval, Addr.add_mid])) (.int .i64 v) _ (var_cell HX0.out 2 rfl) Try.underlying2 rfl ?_; refine hK _ ?_; clear hK K; go_frame)
              quiet_step (first | (go_at_call 15; exact Calls.regrown_of (HBC.out _)))
              (first | go_big_quiet_step (fail) | quiet_step (fail))
              refine wpQuiet_nil ?_
              intro w9 hw9
              obtain ⟨⟨dq, osq⟩, rfl⟩ := hw9
              have HB2 := Lib.hid ((HB1.out).trans ((below_regrown w1 dq osq).mono (HB1.out).size))
              have HX2 := Lib.hid (old_below HX0.out (below_regrown w1 dq osq) (row_lt HX0.out))
              generalize Sort.grow (redrawn w1 dq) osq = w2 at *
              obtain ⟨c0, c1, c2⟩ := three_cells HX2.out
              go_wp2
              go_ret
              exact ⟨by simp [*] <;> omega, HB2.out⟩
            · go_enter Try.func8, Try.ntmps8
              go_upto_region 1 with (fail)
              change Code.wp _ _ _ _ (w.alloc (.cells #[.int .i64 s, .int .i64 d, .int .i64 v] 23))
              rw [HW.out]
              clear HW
              refine wp_region_quiet_below (by kernel_rfl) (by kernel_rfl) ?_
              (first | go_big_quiet_step (fail) | quiet_step (fail))
              (refine wpQuiet_step (fun K hK => ?_); refine quiet_load_cell (by kernel_rfl) 2 _ rfl ((⟨w.heap.size, 0, none⟩ : Addr).add 2) (by first | rfl | (simp [Act.eval, Addr.add_mid])) (.int .i64 v) _ (var_cell HX0.out 2 rfl) Try.underlying2 rfl ?_; refine hK _ ?_; clear hK K; go_frame)
              (first | go_big_quiet_step (fail) | quiet_step (fail))
              (refine wpQuiet_step (fun K hK => ?_); refine quiet_load_cell (by kernel_rfl) 2 _ rfl ((⟨w.heap.size, 0, none⟩ : Addr).add 2) (by first | rfl | (simp [Act.eval, Addr.add_mid])) (.int .i64 v) _ (var_cell HX0.out 2 rfl) Try.underlying2 rfl ?_; refine hK _ ?_; clear hK K; go_frame)
              quiet_step (first | (go_at_call 15; exact Calls.regrown_of (HBC.out _)))
              (first | go_big_quiet_step (fail) | quiet_step (fail))
              refine wpQuiet_nil ?_
              intro w9 hw9
              obtain ⟨⟨dq, osq⟩, rfl⟩ := hw9
              have HB2 := Lib.hid ((HB1.out).trans ((below_regrown w1 dq osq).mono (HB1.out).size))
              have HX2 := Lib.hid (old_below HX0.out (below_regrown w1 dq osq) (row_lt HX0.out))
              generalize Sort.grow (redrawn w1 dq) osq = w2 at *
              obtain ⟨c0, c1, c2⟩ := three_cells HX2.out
              go_wp2
              go_ret
              exact ⟨by simp [*] <;> omega, HB2.out⟩
          · go_enter Try.func8, Try.ntmps8
            go_upto_region 1 with (fail)
            change Code.wp _ _ _ _ (w.alloc (.cells #[.int .i64 s, .int .i64 d, .int .i64 v] 23))
            rw [HW.out]
            clear HW
            refine wp_region_quiet_below (by kernel_rfl) (by kernel_rfl) ?_
            (first | go_big_quiet_step (fail) | quiet_step (fail))
            (refine wpQuiet_step (fun K hK => ?_); refine quiet_load_cell (by kernel_rfl) 2 _ rfl ((⟨w.heap.size, 0, none⟩ : Addr).add 2) (by first | rfl | (simp [Act.eval, Addr.add_mid])) (.int .i64 v) _ (var_cell HX0.out 2 rfl) Try.underlying2 rfl ?_; refine hK _ ?_; clear hK K; go_frame)
            (first | go_big_quiet_step (fail) | quiet_step (fail))
            (refine wpQuiet_step (fun K hK => ?_); refine quiet_load_cell (by kernel_rfl) 2 _ rfl ((⟨w.heap.size, 0, none⟩ : Addr).add 2) (by first | rfl | (simp [Act.eval, Addr.add_mid])) (.int .i64 v) _ (var_cell HX0.out 2 rfl) Try.underlying2 rfl ?_; refine hK _ ?_; clear hK K; go_frame)
            quiet_step (first | (go_at_call 15; exact Calls.regrown_of (HBC.out _)))
            (first | go_big_quiet_step (fail) | quiet_step (fail))
            refine wpQuiet_nil ?_
            intro w9 hw9
            obtain ⟨⟨dq, osq⟩, rfl⟩ := hw9
            have HB2 := Lib.hid ((HB1.out).trans ((below_regrown w1 dq osq).mono (HB1.out).size))
            have HX2 := Lib.hid (old_below HX0.out (below_regrown w1 dq osq) (row_lt HX0.out))
            generalize Sort.grow (redrawn w1 dq) osq = w2 at *
            obtain ⟨c0, c1, c2⟩ := three_cells HX2.out
            go_wp2
            go_ret
            exact ⟨by simp [*] <;> omega, HB2.out⟩
        · go_enter Try.func8, Try.ntmps8
          go_upto_region 1 with (fail)
          change Code.wp _ _ _ _ (w.alloc (.cells #[.int .i64 s, .int .i64 d, .int .i64 v] 23))
          rw [HW.out]
          clear HW
          refine wp_region_quiet_below (by kernel_rfl) (by kernel_rfl) ?_
          (first | go_big_quiet_step (fail) | quiet_step (fail))
          (refine wpQuiet_step (fun K hK => ?_); refine quiet_load_cell (by kernel_rfl) 2 _ rfl ((⟨w.heap.size, 0, none⟩ : Addr).add 2) (by first | rfl | (simp [Act.eval, Addr.add_mid])) (.int .i64 v) _ (var_cell HX0.out 2 rfl) Try.underlying2 rfl ?_; refine hK _ ?_; clear hK K; go_frame)
          (first | go_big_quiet_step (fail) | quiet_step (fail))
          (refine wpQuiet_step (fun K hK => ?_); refine quiet_load_cell (by kernel_rfl) 2 _ rfl ((⟨w.heap.size, 0, none⟩ : Addr).add 2) (by first | rfl | (simp [Act.eval, Addr.add_mid])) (.int .i64 v) _ (var_cell HX0.out 2 rfl) Try.underlying2 rfl ?_; refine hK _ ?_; clear hK K; go_frame)
          quiet_step (first | (go_at_call 15; exact Calls.regrown_of (HBC.out _)))
          (first | go_big_quiet_step (fail) | quiet_step (fail))
          refine wpQuiet_nil ?_
          intro w9 hw9
          obtain ⟨⟨dq, osq⟩, rfl⟩ := hw9
          have HB2 := Lib.hid ((HB1.out).trans ((below_regrown w1 dq osq).mono (HB1.out).size))
          have HX2 := Lib.hid (old_below HX0.out (below_regrown w1 dq osq) (row_lt HX0.out))
          generalize Sort.grow (redrawn w1 dq) osq = w2 at *
          obtain ⟨c0, c1, c2⟩ := three_cells HX2.out
          go_wp2
          go_ret
          exact ⟨by simp [*] <;> omega, HB2.out⟩
      · go_enter Try.func8, Try.ntmps8
        go_upto_region 1 with (fail)
        change Code.wp _ _ _ _ (w.alloc (.cells #[.int .i64 s, .int .i64 d, .int .i64 v] 23))
        rw [HW.out]
        clear HW
        refine wp_region_quiet_below (by kernel_rfl) (by kernel_rfl) ?_
        (first | go_big_quiet_step (fail) | quiet_step (fail))
        (refine wpQuiet_step (fun K hK => ?_); refine quiet_load_cell (by kernel_rfl) 2 _ rfl ((⟨w.heap.size, 0, none⟩ : Addr).add 2) (by first | rfl | (simp [Act.eval, Addr.add_mid])) (.int .i64 v) _ (var_cell HX0.out 2 rfl) Try.underlying2 rfl ?_; refine hK _ ?_; clear hK K; go_frame)
        (first | go_big_quiet_step (fail) | quiet_step (fail))
        (refine wpQuiet_step (fun K hK => ?_); refine quiet_load_cell (by kernel_rfl) 2 _ rfl ((⟨w.heap.size, 0, none⟩ : Addr).add 2) (by first | rfl | (simp [Act.eval, Addr.add_mid])) (.int .i64 v) _ (var_cell HX0.out 2 rfl) Try.underlying2 rfl ?_; refine hK _ ?_; clear hK K; go_frame)
        quiet_step (first | (go_at_call 15; exact Calls.regrown_of (HBC.out _)))
        (first | go_big_quiet_step (fail) | quiet_step (fail))
        refine wpQuiet_nil ?_
        intro w9 hw9
        obtain ⟨⟨dq, osq⟩, rfl⟩ := hw9
        have HB2 := Lib.hid ((HB1.out).trans ((below_regrown w1 dq osq).mono (HB1.out).size))
        have HX2 := Lib.hid (old_below HX0.out (below_regrown w1 dq osq) (row_lt HX0.out))
        generalize Sort.grow (redrawn w1 dq) osq = w2 at *
        obtain ⟨c0, c1, c2⟩ := three_cells HX2.out
        go_wp2
        go_ret
        exact ⟨by simp [*] <;> omega, HB2.out⟩
  · obtain ⟨b, hb⟩ : ∃ b, boundX v = b := ⟨_, rfl⟩
    have hbv : ¬ v = b := by
      rw [← hb]
      have := bound_in v
      omega
    have HBC : Hid (∀ w, Calls Try.prog 15 #[.int .i64 v] w fun e w' => e = .returned (.int .i64 b) ∧ Below w.heap.size w w') := fun w => by
      have := bounded_any v w
      rwa [hb] at this
    have HF : Hid ((decide (4 ≤ v) && decide (v ≤ 240)) = false) := by
      show _ = _
      rw [Bool.eq_false_iff]
      intro h
      simp at h
      exact hv h
    rw [HF.out, Bool.false_and]
    clear hv hb
    go_enter Try.func8, Try.ntmps8
    go_upto_region 1 with (fail)
    change Code.wp _ _ _ _ (w.alloc (.cells #[.int .i64 s, .int .i64 d, .int .i64 v] 23))
    rw [HW.out]
    clear HW
    refine wp_region_quiet_below (by kernel_rfl) (by kernel_rfl) ?_
    (first | go_big_quiet_step (fail) | quiet_step (fail))
    (refine wpQuiet_step (fun K hK => ?_); refine quiet_load_cell (by kernel_rfl) 2 _ rfl ((⟨w.heap.size, 0, none⟩ : Addr).add 2) (by first | rfl | (simp [Act.eval, Addr.add_mid])) (.int .i64 v) _ (var_cell HX0.out 2 rfl) Try.underlying2 rfl ?_; refine hK _ ?_; clear hK K; go_frame)
    (first | go_big_quiet_step (fail) | quiet_step (fail))
    (refine wpQuiet_step (fun K hK => ?_); refine quiet_load_cell (by kernel_rfl) 2 _ rfl ((⟨w.heap.size, 0, none⟩ : Addr).add 2) (by first | rfl | (simp [Act.eval, Addr.add_mid])) (.int .i64 v) _ (var_cell HX0.out 2 rfl) Try.underlying2 rfl ?_; refine hK _ ?_; clear hK K; go_frame)
    quiet_step (first | (go_at_call 15; exact Calls.regrown_of (HBC.out _)))
    (first | go_big_quiet_step (fail) | quiet_step (fail))
    refine wpQuiet_nil ?_
    intro w9 hw9
    obtain ⟨⟨dq, osq⟩, rfl⟩ := hw9
    have HB2 := Lib.hid ((HB1.out).trans ((below_regrown w1 dq osq).mono (HB1.out).size))
    have HX2 := Lib.hid (old_below HX0.out (below_regrown w1 dq osq) (row_lt HX0.out))
    generalize Sort.grow (redrawn w1 dq) osq = w2 at *
    obtain ⟨c0, c1, c2⟩ := three_cells HX2.out
    go_wp2
    go_ret
    exact ⟨rfl, HB2.out⟩
end Go.Proofs.Ytafpnmmkaanjaaa
