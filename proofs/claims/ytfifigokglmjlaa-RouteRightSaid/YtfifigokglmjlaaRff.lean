/-
  The document's First of routes. Every two routes.
-/
import Derived.Test.YtfifigokglmjlaaRfm
namespace Go.Proofs.Ytfifigokglmjlaa
open Go.RowKit

theorem reg_cells {w0 w : World} {ad : Addr} {C : Array Value} (hb : Below w0.heap.size w0 w) (h : ∀ w', Below w0.heap.size w0 w' → ∀ (j : Nat) v, C[j]? = some v → w'.cell? (ad.add j) = some v) : ∀ w', Reg w w' → ∀ (j : Nat) v, C[j]? = some v → w'.cell? (ad.add j) = some v :=
  fun w' hr => h w' (hb.trans ((reg_below hr).mono hb.size))
theorem var_all {w : World} {b : Nat} {C : Array Value} {t : TypeId} {fr : Nat × Nat} (h : w.heap[b]? = some (.cells C t fr)) : ∀ w', Below w.heap.size w w' → ∀ (j : Nat) v, C[j]? = some v → w'.cell? ((⟨b, 0, none⟩ : Addr).add j) = some v := fun w' hb j v hv => by
  rw [Addr.add_mid, Nat.zero_add, cell_of_row _ _ _ _ _ _ (old_below h hb (row_lt h))]
  exact hv
/-- a part of an element -/
theorem all_part {w : World} {ad : Addr} {C D : Array Value} {o : Nat} (h : ∀ w', Below w.heap.size w w' → ∀ (j : Nat) v, C[j]? = some v → w'.cell? (ad.add j) = some v) (hD : ∀ (j : Nat) v, D[j]? = some v → C[o + j]? = some v) : ∀ w', Reg w w' → ∀ (j : Nat) v, D[j]? = some v → w'.cell? ((ad.add o).add j) = some v := fun w' hr j v hv => by
  rw [add_twice]
  exact h w' (reg_below hr) _ v (hD j v hv)
theorem all_part0 {w : World} {ad : Addr} {C D : Array Value} (h : ∀ w', Below w.heap.size w w' → ∀ (j : Nat) v, C[j]? = some v → w'.cell? (ad.add j) = some v) (hD : ∀ (j : Nat) v, D[j]? = some v → C[j]? = some v) : ∀ w', Reg w w' → ∀ (j : Nat) v, D[j]? = some v → w'.cell? (ad.add j) = some v := fun w' hr j v hv =>
  h w' (reg_below hr) _ v (hD j v hv)
theorem all_cell {w : World} {ad : Addr} {C : Array Value} {o : Nat} {v : Value} (h : ∀ w', Below w.heap.size w w' → ∀ (j : Nat) v, C[j]? = some v → w'.cell? (ad.add j) = some v) (hv : C[o]? = some v) : ∀ w', Reg w w' → w'.cell? (ad.add o) = some v := fun w' hr => h w' (reg_below hr) _ v hv
set_option maxRecDepth 100000 in
set_option maxHeartbeats 4000000 in
theorem first_any (a b : Ro) (w : World) : Calls Try.prog 26 #[.agg (roA a), .agg (roA b)] w fun e w' => e = .returned (.bool (firstX a b)) ∧ Below w.heap.size w w' := by
  obtain ⟨w1, hw1⟩ : ∃ w1, (w.alloc (.cells (roA a) 28)).alloc (.cells (roA b) 28) = w1 := ⟨_, rfl⟩
  have HB1 : Hid (Below w.heap.size w w1) := by rw [← hw1]; exact ((Below.refl _ _).alloc (Nat.le_refl _) _).alloc (by simp) _
  have HX0 : Hid (w1.heap[w.heap.size]? = some (.cells (roA a) 28 (0, 0))) := by rw [← hw1]; exact old_alloc (heap_alloc_new w _) _
  have HX1 : Hid (w1.heap[w.heap.size + 1]? = some (.cells (roA b) 28 (0, 0))) := by rw [← hw1]; exact new_at1 w _ _
  have HW := Lib.hid hw1
  have HV : Hid (firstX a b = decide (b.bits < a.bits ∨ a.bits = b.bits ∧ a.net.num < b.net.num)) := rfl
  have KA := Lib.hid (var_all HX0.out)
  have KB := Lib.hid (var_all HX1.out)
  have A4 := Lib.hid (all_cell (o := 4) KA.out (roA_bits a))
  have B4 := Lib.hid (all_cell (o := 4) KB.out (roA_bits b))
  have AN := Lib.hid (all_part0 KA.out (roA_net a))
  have BN := Lib.hid (all_part0 KB.out (roA_net b))
  have WA : Hid (∀ w, Calls Try.prog 34 #[.agg (ipA a.net)] w fun e w' => e = .returned (.int .i64 (a.net.num : Int)) ∧ Below w.heap.size w w') := fun w => word14_any a.net w
  have WB : Hid (∀ w, Calls Try.prog 34 #[.agg (ipA b.net)] w fun e w' => e = .returned (.int .i64 (b.net.num : Int)) ∧ Below w.heap.size w w') := fun w => word14_any b.net w
  have hn0 := ip_lt a.net
  have hn1 := ip_lt b.net
  generalize ipA a.net = CA at AN WA
  generalize ipA b.net = CB at BN WB
  generalize a.net.num = n at hn0 WA HV
  generalize b.net.num = m at hn1 WB HV
  generalize a.bits = p at *
  generalize b.bits = q at *
  clear hw1 KA KB
  generalize hbb : w.heap.size + 1 = bb at HX1 B4 BN
  have HBB := Lib.hid hbb
  clear hbb
  rcases Int.lt_trichotomy q p with h | h | h
  · have HF : Hid (firstX a b = true) := HV.out.trans (decide_eq_true (.inl h))
    have hd : ¬ p = q := by omega
    clear HV
    go_enter Try.func26, Try.ntmps26
    go_upto_region 1 with (fail)
    change Code.wp _ _ _ _ ((w.alloc (.cells (roA a) 28)).alloc (.cells (roA b) 28))
    rw [HW.out, HBB.out]
    clear HW HBB
    refine wp_region_quiet_below (by kernel_rfl) (by kernel_rfl) ?_
    (first | go_big_quiet_step (fail) | quiet_step (fail))
    (refine wpQuiet_step (fun K hK => ?_); refine quiet_load_cell (by kernel_rfl) 3 _ rfl ((⟨w.heap.size, 0, none⟩ : Addr).add 4) (by first | rfl | (simp [Act.eval, Addr.add_mid])) (.int .i64 p) _ A4.out Try.underlying3 rfl ?_; refine hK _ ?_; clear hK K; go_frame)
    (first | go_big_quiet_step (fail) | quiet_step (fail))
    (refine wpQuiet_step (fun K hK => ?_); refine quiet_load_cell (by kernel_rfl) 3 _ rfl ((⟨bb, 0, none⟩ : Addr).add 4) (by first | rfl | (simp [Act.eval, Addr.add_mid])) (.int .i64 q) _ B4.out Try.underlying3 rfl ?_; refine hK _ ?_; clear hK K; go_frame)
    (first | go_big_quiet_step (fail) | quiet_step (fail))
    (first | go_big_quiet_step (fail) | quiet_step (fail))
    (first | go_big_quiet_step (fail) | quiet_step (fail))
    (first | go_big_quiet_step (fail) | quiet_step (fail))
    (first | go_big_quiet_step (fail) | quiet_step (fail))
    (first | go_big_quiet_step (fail) | quiet_step (fail))
    (first | go_big_quiet_step (fail) | quiet_step (fail))
    (first | go_big_quiet_step (fail) | quiet_step (fail))
    (first | go_big_quiet_step (fail) | quiet_step (fail))
    (first | go_big_quiet_step (fail) | quiet_step (fail))
    (first | go_big_quiet_step (fail) | quiet_step (fail))
    (first | go_big_quiet_step (fail) | quiet_step (fail))
    (first | go_big_quiet_step (fail) | quiet_step (fail))
    (first | go_big_quiet_step (fail) | quiet_step (fail))
    (first | go_big_quiet_step (fail) | quiet_step (fail))
    (first | go_big_quiet_step (fail) | quiet_step (fail))
    (first | go_big_quiet_step (fail) | quiet_step (fail))
    (first | go_big_quiet_step (fail) | quiet_step (fail))
    refine wpQuiet_nil ?_
    intro w9 hw9
    obtain ⟨⟨dq, osq⟩, rfl⟩ := hw9
    have HB2 := Lib.hid ((HB1.out).trans ((below_regrown w1 dq osq).mono (HB1.out).size))
    generalize Sort.grow (redrawn w1 dq) osq = w2 at *
    go_wp2
    go_ret
    rw [HF.out]
    exact ⟨rfl, HB2.out⟩
  · subst h
    have hd : ¬ q < q := by omega
    have HF : Hid (firstX a b = decide (n < m)) := HV.out.trans (by simp)
    clear HV
    go_enter Try.func26, Try.ntmps26
    go_upto_region 1 with (fail)
    change Code.wp _ _ _ _ ((w.alloc (.cells (roA a) 28)).alloc (.cells (roA b) 28))
    rw [HW.out, HBB.out]
    clear HW HBB
    refine wp_region_quiet_below (by kernel_rfl) (by kernel_rfl) ?_
    (first | go_big_quiet_step (fail) | quiet_step (fail))
    (refine wpQuiet_step (fun K hK => ?_); refine quiet_load_cell (by kernel_rfl) 3 _ rfl ((⟨w.heap.size, 0, none⟩ : Addr).add 4) (by first | rfl | (simp [Act.eval, Addr.add_mid])) (.int .i64 q) _ A4.out Try.underlying3 rfl ?_; refine hK _ ?_; clear hK K; go_frame)
    (first | go_big_quiet_step (fail) | quiet_step (fail))
    (refine wpQuiet_step (fun K hK => ?_); refine quiet_load_cell (by kernel_rfl) 3 _ rfl ((⟨bb, 0, none⟩ : Addr).add 4) (by first | rfl | (simp [Act.eval, Addr.add_mid])) (.int .i64 q) _ B4.out Try.underlying3 rfl ?_; refine hK _ ?_; clear hK K; go_frame)
    (first | go_big_quiet_step (fail) | quiet_step (fail))
    (first | go_big_quiet_step (fail) | quiet_step (fail))
    (first | go_big_quiet_step (fail) | quiet_step (fail))
    (refine wpQuiet_step (fun K hK => ?_); refine quiet_load_cell (by kernel_rfl) 3 _ rfl ((⟨w.heap.size, 0, none⟩ : Addr).add 4) (by first | rfl | (simp [Act.eval, Addr.add_mid])) (.int .i64 q) _ A4.out Try.underlying3 rfl ?_; refine hK _ ?_; clear hK K; go_frame)
    (first | go_big_quiet_step (fail) | quiet_step (fail))
    (refine wpQuiet_step (fun K hK => ?_); refine quiet_load_cell (by kernel_rfl) 3 _ rfl ((⟨bb, 0, none⟩ : Addr).add 4) (by first | rfl | (simp [Act.eval, Addr.add_mid])) (.int .i64 q) _ B4.out Try.underlying3 rfl ?_; refine hK _ ?_; clear hK K; go_frame)
    (first | go_big_quiet_step (fail) | quiet_step (fail))
    (first | go_big_quiet_step (fail) | quiet_step (fail))
    (first | go_big_quiet_step (fail) | quiet_step (fail))
    (refine wpQuiet_step (fun K hK => ?_); refine quiet_load_at (by kernel_rfl) 26 _ rfl (⟨w.heap.size, 0, none⟩ : Addr) (by first | rfl | (simp [Act.eval, Addr.add_mid])) CA _ AN.out Try.underlying26 rfl (by kernel_rfl) ?_; refine hK _ ?_; clear hK K; go_frame)
    quiet_step (first | (go_at_call 34; exact Calls.regrown_of (WA.out _)))
    (first | go_big_quiet_step (fail) | quiet_step (fail))
    (refine wpQuiet_step (fun K hK => ?_); refine quiet_load_at (by kernel_rfl) 26 _ rfl (⟨bb, 0, none⟩ : Addr) (by first | rfl | (simp [Act.eval, Addr.add_mid])) CB _ BN.out Try.underlying26 rfl (by kernel_rfl) ?_; refine hK _ ?_; clear hK K; go_frame)
    quiet_step (first | (go_at_call 34; exact Calls.regrown_of (WB.out _)))
    (first | go_big_quiet_step (fail) | quiet_step (fail))
    (first | go_big_quiet_step (fail) | quiet_step (fail))
    (first | go_big_quiet_step (fail) | quiet_step (fail))
    (first | go_big_quiet_step (fail) | quiet_step (fail))
    refine wpQuiet_nil ?_
    intro w9 hw9
    obtain ⟨⟨dq, osq⟩, rfl⟩ := hw9
    have HB2 := Lib.hid ((HB1.out).trans ((below_regrown w1 dq osq).mono (HB1.out).size))
    generalize Sort.grow (redrawn w1 dq) osq = w2 at *
    go_wp2
    go_ret
    rw [HF.out]
    exact ⟨congrArg (fun b => Ending.returned (Value.bool b)) (by simp), HB2.out⟩
  · have HF : Hid (firstX a b = false) := HV.out.trans (decide_eq_false (by omega))
    have hd : ¬ q < p := by omega
    have hd2 : ¬ p = q := by omega
    clear HV
    go_enter Try.func26, Try.ntmps26
    go_upto_region 1 with (fail)
    change Code.wp _ _ _ _ ((w.alloc (.cells (roA a) 28)).alloc (.cells (roA b) 28))
    rw [HW.out, HBB.out]
    clear HW HBB
    refine wp_region_quiet_below (by kernel_rfl) (by kernel_rfl) ?_
    (first | go_big_quiet_step (fail) | quiet_step (fail))
    (refine wpQuiet_step (fun K hK => ?_); refine quiet_load_cell (by kernel_rfl) 3 _ rfl ((⟨w.heap.size, 0, none⟩ : Addr).add 4) (by first | rfl | (simp [Act.eval, Addr.add_mid])) (.int .i64 p) _ A4.out Try.underlying3 rfl ?_; refine hK _ ?_; clear hK K; go_frame)
    (first | go_big_quiet_step (fail) | quiet_step (fail))
    (refine wpQuiet_step (fun K hK => ?_); refine quiet_load_cell (by kernel_rfl) 3 _ rfl ((⟨bb, 0, none⟩ : Addr).add 4) (by first | rfl | (simp [Act.eval, Addr.add_mid])) (.int .i64 q) _ B4.out Try.underlying3 rfl ?_; refine hK _ ?_; clear hK K; go_frame)
    (first | go_big_quiet_step (fail) | quiet_step (fail))
    (first | go_big_quiet_step (fail) | quiet_step (fail))
    (first | go_big_quiet_step (fail) | quiet_step (fail))
    (refine wpQuiet_step (fun K hK => ?_); refine quiet_load_cell (by kernel_rfl) 3 _ rfl ((⟨w.heap.size, 0, none⟩ : Addr).add 4) (by first | rfl | (simp [Act.eval, Addr.add_mid])) (.int .i64 p) _ A4.out Try.underlying3 rfl ?_; refine hK _ ?_; clear hK K; go_frame)
    (first | go_big_quiet_step (fail) | quiet_step (fail))
    (refine wpQuiet_step (fun K hK => ?_); refine quiet_load_cell (by kernel_rfl) 3 _ rfl ((⟨bb, 0, none⟩ : Addr).add 4) (by first | rfl | (simp [Act.eval, Addr.add_mid])) (.int .i64 q) _ B4.out Try.underlying3 rfl ?_; refine hK _ ?_; clear hK K; go_frame)
    (first | go_big_quiet_step (fail) | quiet_step (fail))
    (first | go_big_quiet_step (fail) | quiet_step (fail))
    (first | go_big_quiet_step (fail) | quiet_step (fail))
    (first | go_big_quiet_step (fail) | quiet_step (fail))
    (first | go_big_quiet_step (fail) | quiet_step (fail))
    (first | go_big_quiet_step (fail) | quiet_step (fail))
    (first | go_big_quiet_step (fail) | quiet_step (fail))
    (first | go_big_quiet_step (fail) | quiet_step (fail))
    (first | go_big_quiet_step (fail) | quiet_step (fail))
    (first | go_big_quiet_step (fail) | quiet_step (fail))
    (first | go_big_quiet_step (fail) | quiet_step (fail))
    (first | go_big_quiet_step (fail) | quiet_step (fail))
    refine wpQuiet_nil ?_
    intro w9 hw9
    obtain ⟨⟨dq, osq⟩, rfl⟩ := hw9
    have HB2 := Lib.hid ((HB1.out).trans ((below_regrown w1 dq osq).mono (HB1.out).size))
    generalize Sort.grow (redrawn w1 dq) osq = w2 at *
    go_wp2
    go_ret
    rw [HF.out]
    exact ⟨rfl, HB2.out⟩
end Go.Proofs.Ytfifigokglmjlaa
