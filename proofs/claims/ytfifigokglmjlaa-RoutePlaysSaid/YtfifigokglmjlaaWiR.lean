/-
  addr.Within over addresses of four bytes. Every two addresses, every number of bits.
-/
import Derived.Test.YtfifigokglmjlaaRfw
import Derived.Test.YtfifigokglmjlaaGet
namespace Go.Proofs.Ytfifigokglmjlaa
open Go.RowKit

def Ip.bytes (a : Ip) : List UInt8 := [a.x0, a.x1, a.x2, a.x3]
theorem ip_getV (a : Ip) : getV a.bytes = a.num := by
  unfold getV Ip.bytes Ip.num
  simp
theorem rd_ip {w : World} {b : Nat} {a : Ip} {t : TypeId} (h : w.heap[b]? = some (.cells (ipA a) t (0, 0))) : Rd w b (b + 1) (some ⟨b, 0, none⟩) (cells a.bytes) := by
  intro j u hu
  refine ⟨_, rfl, Nat.le_refl _, Nat.lt_succ_self _, ?_⟩
  rw [Addr.add_mid, Nat.zero_add, cell_of_row _ _ j _ _ _ h, show ipA a = (cells a.bytes).toArray from rfl]
  simpa using hu
theorem whole_any (a : Ip) (w : World) : Calls Try.prog 36 #[.agg (ipA a)] w fun e w' => e = .returned (.int .u64 (a.num : Int)) ∧ Below w.heap.size w w' := by
  have hg : Hid (∀ o : Obj, o = .cells (ipA a) 26 (0, 0) → Calls Try.prog 39 #[.slice (some ⟨w.heap.size, 0, none⟩) 4 4] (w.alloc o) fun e w' => e = .returned (.tuple #[.int .u64 (a.num : Int), .int .i64 0]) ∧ w.alloc o = w') := by
    rintro o rfl
    have := get_ok ⟨w.heap.size, 0, none⟩ a.bytes 4 _ _ _ (rd_ip (t := 26) (heap_alloc_new w _)) (by simp [Ip.bytes])
    rw [ip_getV] at this
    exact this
  go_enter Try.func36, Try.ntmps36
  go_wp2_with fail
  refine (hg.out _ rfl).mono ?_
  rintro e w1 ⟨rfl, rfl⟩
  go_wp2
  go_ret
  exact ⟨rfl, (Below.refl _ _).alloc (Nat.le_refl _) _⟩
theorem within_out (a n : Ip) (bits : Int) (w : World) (hb : bits < 0 ∨ 32 < bits) :
    Calls Try.prog 28 #[.agg (ipA a), .agg (ipA n), .int .i64 bits] w fun e w' => e = .returned (.bool (withinX a n bits)) ∧ Below w.heap.size w w' := by
  have HP : Hid (withinX a n bits = false) := by
    show _ = _
    unfold withinX
    exact decide_eq_false (by omega)
  rcases hb with hb | hb
  · go_enter Try.func28, Try.ntmps28
    go_wp2
    go_ret
    rw [HP.out]
    exact ⟨rfl, ((Below.refl _ _).alloc (Nat.le_refl _) _).alloc (by simp) _⟩
  · have h0 : ¬ bits < 0 := by omega
    go_enter Try.func28, Try.ntmps28
    go_wp2
    go_ret
    rw [HP.out]
    exact ⟨rfl, ((Below.refl _ _).alloc (Nat.le_refl _) _).alloc (by simp) _⟩
theorem shift_dec (g h s : Nat) : ((g : Int) / 2 ^ s == (h : Int) / 2 ^ s) = decide (g / 2 ^ s = h / 2 ^ s) := by
  have e : ∀ x : Nat, (x : Int) / 2 ^ s = ((x / 2 ^ s : Nat) : Int) := fun x => by
    rw [Int.natCast_ediv]
    simp
  rw [e, e, Bool.eq_iff_iff, beq_iff_eq, decide_eq_true_iff]
  exact Int.ofNat_inj
set_option maxRecDepth 100000 in
set_option maxHeartbeats 2000000 in
theorem within_in (a n : Ip) (m : Nat) (w : World) (hb : m ≤ 32) :
    Calls Try.prog 28 #[.agg (ipA a), .agg (ipA n), .int .i64 (m : Int)] w fun e w' => e = .returned (.bool (withinX a n m)) ∧ Below w.heap.size w w' := by
  have HP : Hid (withinX a n m = decide (a.num / 2 ^ (32 - m) = n.num / 2 ^ (32 - m))) := by
    show _ = _
    unfold withinX
    rw [show ((32 : Int) - (m : Int)).toNat = 32 - m from by omega]
    congr 1
    simp
    omega
  have hga := ip_lt a
  have hgn := ip_lt n
  obtain ⟨w1, hw1⟩ : ∃ w1, (w.alloc (.cells (ipA a) 26)).alloc (.cells (ipA n) 26) = w1 := ⟨_, rfl⟩
  have HB1 : Hid (Below w.heap.size w w1) := by rw [← hw1]; exact ((Below.refl _ _).alloc (Nat.le_refl _) _).alloc (by simp) _
  have HX0 : Hid (w1.heap[w.heap.size]? = some (.cells (ipA a) 26 (0, 0))) := by rw [← hw1]; exact old_alloc (heap_alloc_new w _) _
  have HX1 : Hid (w1.heap[w.heap.size + 1]? = some (.cells (ipA n) 26 (0, 0))) := by rw [← hw1]; exact new_at1 w _ _
  have HW := Lib.hid hw1
  have KA := Lib.hid (all_part0 (D := ipA a) (var_all HX0.out) fun _ _ h => h)
  have KB := Lib.hid (all_part0 (D := ipA n) (var_all HX1.out) fun _ _ h => h)
  have WA : Hid (∀ w, Calls Try.prog 36 #[.agg (ipA a)] w fun e w' => e = .returned (.int .u64 (a.num : Int)) ∧ Below w.heap.size w w') := fun w => whole_any a w
  have WB : Hid (∀ w, Calls Try.prog 36 #[.agg (ipA n)] w fun e w' => e = .returned (.int .u64 (n.num : Int)) ∧ Below w.heap.size w w') := fun w => whole_any n w
  have SA : Hid ((ipA a).size = 4) := ipE.size _
  have SB : Hid ((ipA n).size = 4) := ipE.size _
  rw [HP.out]
  clear HP hw1 HX0 HX1
  generalize ipA a = CA at *
  generalize ipA n = CB at *
  generalize a.num = g at *
  generalize n.num = h at *
  generalize hbb : w.heap.size + 1 = bb at KB
  have HBB := Lib.hid hbb
  clear hbb
  have hm0 : ¬ (m : Int) < 0 := by omega
  have hm32 : ¬ 32 < (m : Int) := by omega
  have hq : (32 : Int) - (m : Int) = ((32 - m : Nat) : Int) := by omega
  have hs64 : 32 - m ≤ 32 := Nat.sub_le _ _
  have HSD := Lib.hid (shift_dec g h (32 - m))
  go_enter Try.func28, Try.ntmps28
  go_upto_region 4 with (fail)
  change Code.wp _ _ _ _ ((w.alloc (.cells CA 26)).alloc (.cells CB 26))
  rw [HW.out, HBB.out]
  obtain ⟨sh, hsh⟩ : ∃ sh, 32 - m = sh := ⟨_, rfl⟩
  have HSH := Lib.hid hsh
  rw [hsh] at hq hs64 HSD
  try rw [hsh]
  clear HW HBB hsh hb
  refine wp_region_quiet_below (by kernel_rfl) (by kernel_rfl) ?_
  (refine wpQuiet_step (fun K hK => ?_); refine quiet_load_at (by kernel_rfl) 26 _ rfl (⟨w.heap.size, 0, none⟩ : Addr) (by first | rfl | (simp [Act.eval, Addr.add_mid])) CA _ KA.out Try.underlying26 rfl (by rw [SA.out]; kernel_rfl) ?_; refine hK _ ?_; clear hK K; go_frame)
  quiet_step (first | (go_at_call 36; exact Calls.regrown_of (WA.out _)))
  (first | go_big_quiet_step (fail) | quiet_step (fail))
  (first | go_big_quiet_step (fail) | quiet_step (fail))
  (refine wpQuiet_step (fun K hK => ?_); refine quiet_load_at (by kernel_rfl) 26 _ rfl (⟨bb, 0, none⟩ : Addr) (by first | rfl | (simp [Act.eval, Addr.add_mid])) CB _ KB.out Try.underlying26 rfl (by rw [SB.out]; kernel_rfl) ?_; refine hK _ ?_; clear hK K; go_frame)
  quiet_step (first | (go_at_call 36; exact Calls.regrown_of (WB.out _)))
  (first | go_big_quiet_step (fail) | quiet_step (fail))
  (first | go_big_quiet_step (fail) | quiet_step (fail))
  (first | go_big_quiet_step (fail) | quiet_step (fail))
  (first | go_big_quiet_step (fail) | quiet_step (fail))
  refine wpQuiet_nil ?_
  intro w9 hw9
  obtain ⟨⟨dq, osq⟩, rfl⟩ := hw9
  have HB2 := Lib.hid ((HB1.out).trans ((below_regrown w1 dq osq).mono (HB1.out).size))
  generalize Sort.grow (redrawn w1 dq) osq = w2 at *
  go_wp2
  go_ret
  rw [HSH.out]
  exact ⟨congrArg (fun b => Ending.returned (Value.bool b)) HSD.out, HB2.out⟩
/-- addr.Within, all of it -/
theorem within_any (a n : Ip) (bits : Int) (w : World) :
    Calls Try.prog 28 #[.agg (ipA a), .agg (ipA n), .int .i64 bits] w fun e w' => e = .returned (.bool (withinX a n bits)) ∧ Below w.heap.size w w' := by
  by_cases h : bits < 0 ∨ 32 < bits
  · exact within_out a n bits w h
  · obtain ⟨m, rfl⟩ := Int.eq_ofNat_of_zero_le (show 0 ≤ bits by omega)
    exact within_in a n m w (by omega)
end Go.Proofs.Ytfifigokglmjlaa
