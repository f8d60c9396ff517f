/-
  The document's word and Within of layer 4. Every two addresses, every number of bits.
-/
import Derived.Test.YtfifigokglmjlaaRff
namespace Go.Proofs.Ytfifigokglmjlaa
open Go.RowKit

def partN (a : Ip) : Nat → Nat
  | 0 => 0
  | 1 => a.x0.toNat
  | 2 => a.x0.toNat * 256 + a.x1.toNat
  | 3 => (a.x0.toNat * 256 + a.x1.toNat) * 256 + a.x2.toNat
  | _ => a.num
theorem word04_any (a : Ip) (w : World) : Calls Try.prog 29 #[.agg (ipA a)] w fun e w' => e = .returned (.int .i64 (a.num : Int)) ∧ Below w.heap.size w w' := by
  have h0 := a.x0.toNat_lt
  have h1 := a.x1.toNat_lt
  have h2 := a.x2.toNat_lt
  have h3 := a.x3.toNat_lt
  have HB : Hid (Below w.heap.size w (w.alloc (.cells (ipA a) 26))) := (Below.refl _ _).alloc (Nat.le_refl _) _
  have P1 : Hid (partN a 1 = a.x0.toNat) := rfl
  have P2 : Hid (partN a 2 = a.x0.toNat * 256 + a.x1.toNat) := rfl
  have P3 : Hid (partN a 3 = (a.x0.toNat * 256 + a.x1.toNat) * 256 + a.x2.toNat) := rfl
  have P4 : Hid (partN a 4 = ((a.x0.toNat * 256 + a.x1.toNat) * 256 + a.x2.toNat) * 256 + a.x3.toNat) := rfl
  have PE : Hid (a.num = partN a 4) := rfl
  have C0 : Hid ((ipA a)[0]? = some (.int .u8 (a.x0.toNat : Int))) := rfl
  have C1 : Hid ((ipA a)[1]? = some (.int .u8 (a.x1.toNat : Int))) := rfl
  have C2 : Hid ((ipA a)[2]? = some (.int .u8 (a.x2.toNat : Int))) := rfl
  have C3 : Hid ((ipA a)[3]? = some (.int .u8 (a.x3.toNat : Int))) := rfl
  have HX : Hid ((w.alloc (.cells (ipA a) 26)).heap[w.heap.size]? = some (.cells (ipA a) 26 (0, 0))) := heap_alloc_new w _
  obtain ⟨w1, hw1⟩ : ∃ w1, w.alloc (.cells (ipA a) 26) = w1 := ⟨_, rfl⟩
  rw [hw1] at HB HX
  have HW := Lib.hid hw1
  clear hw1
  generalize ipA a = CA at *
  generalize a.x0.toNat = y0 at *
  generalize a.x1.toNat = y1 at *
  generalize a.x2.toNat = y2 at *
  generalize a.x3.toNat = y3 at *
  rw [PE.out]
  clear PE
  generalize partN a = p at *
  go_enter Try.func29, Try.ntmps29
  go_upto_region 1 with (fail)
  change Code.wp _ _ _ _ (w.alloc (.cells CA 26))
  rw [HW.out]
  clear HW
  have c0 : w1.cell? ⟨w.heap.size, 0, none⟩ = some (.int .u8 (y0 : Int)) := (cell_of_row _ _ _ _ _ _ HX.out).trans C0.out
  have c1 : w1.cell? ⟨w.heap.size, 1, none⟩ = some (.int .u8 (y1 : Int)) := (cell_of_row _ _ _ _ _ _ HX.out).trans C1.out
  have c2 : w1.cell? ⟨w.heap.size, 2, none⟩ = some (.int .u8 (y2 : Int)) := (cell_of_row _ _ _ _ _ _ HX.out).trans C2.out
  have c3 : w1.cell? ⟨w.heap.size, 3, none⟩ = some (.int .u8 (y3 : Int)) := (cell_of_row _ _ _ _ _ _ HX.out).trans C3.out
  have hp0 : ((p 0 : Nat) : Int) = ((p 0 : Nat) : Int) := rfl
  go_wp2
  go_loop [3, 4] (fun n i => ∃ k : Nat, k ≤ 4 ∧ i = .int .i64 (k : Int) ∧ ((k = 0 ∧ n = .int .i64 0) ∨ (k = 1 ∧ n = .int .i64 (y0 : Int)) ∨ (k = 2 ∧ n = .int .i64 ((y0 : Int) * 256 + (y1 : Int))) ∨ (k = 3 ∧ n = .int .i64 (((y0 : Int) * 256 + (y1 : Int)) * 256 + (y2 : Int))) ∨ (k = 4 ∧ n = .int .i64 ((((y0 : Int) * 256 + (y1 : Int)) * 256 + (y2 : Int)) * 256 + (y3 : Int))))) (fun _ i => 4 - (intOf i).toNat)
  case atStart => exact ⟨0, Nat.zero_le _, rfl, .inl ⟨rfl, rfl⟩⟩
  case round =>
    obtain ⟨k, hk, rfl, hc⟩ := hrel
    rcases hc with ⟨rfl, rfl⟩ | ⟨rfl, rfl⟩ | ⟨rfl, rfl⟩ | ⟨rfl, rfl⟩ | ⟨rfl, rfl⟩
    · go_wp2
      go_round
      case rel => exact ⟨1, by omega, rfl, .inr (.inl ⟨rfl, by first | rfl | (congr 1; omega)⟩)⟩
      case measure => simp [intOf]
    · go_wp2
      go_round
      case rel => exact ⟨2, by omega, rfl, .inr (.inr (.inl ⟨rfl, by first | rfl | (congr 1; omega)⟩))⟩
      case measure => simp [intOf]
    · go_wp2
      go_round
      case rel => exact ⟨3, by omega, rfl, .inr (.inr (.inr (.inl ⟨rfl, by first | rfl | (congr 1; omega)⟩)))⟩
      case measure => simp [intOf]
    · go_wp2
      go_round
      case rel => exact ⟨4, by omega, rfl, .inr (.inr (.inr (.inr ⟨rfl, by first | rfl | (congr 1; omega)⟩)))⟩
      case measure => simp [intOf]
    · go_wp2
      go_ret
      exact ⟨by rw [P4.out]; first | rfl | (congr 2; omega), HB.out⟩
theorem halve2 (g j : Nat) : g / 2 ^ (j + 1) = g / 2 ^ j / 2 := by rw [Nat.pow_succ, Nat.div_div_eq_div_mul]
theorem refwithin_out (a n : Ip) (bits : Int) (w : World) (hb : bits < 0 ∨ 32 < bits) :
    Calls Try.prog 17 #[.agg (ipA a), .agg (ipA n), .int .i64 bits] w fun e w' => e = .returned (.bool (withinX a n bits)) ∧ Below w.heap.size w w' := by
  have HP : Hid (withinX a n bits = false) := by
    show _ = _
    unfold withinX
    exact decide_eq_false (by omega)
  rcases hb with hb | hb
  · go_enter Try.func17, Try.ntmps17
    go_wp2
    go_ret
    rw [HP.out]
    exact ⟨rfl, ((Below.refl _ _).alloc (Nat.le_refl _) _).alloc (by simp) _⟩
  · have h0 : ¬ bits < 0 := by omega
    go_enter Try.func17, Try.ntmps17
    go_wp2
    go_ret
    rw [HP.out]
    exact ⟨rfl, ((Below.refl _ _).alloc (Nat.le_refl _) _).alloc (by simp) _⟩
set_option maxRecDepth 100000 in
set_option maxHeartbeats 2000000 in
theorem refwithin_in (a n : Ip) (m : Nat) (w : World) (hb : m ≤ 32) :
    Calls Try.prog 17 #[.agg (ipA a), .agg (ipA n), .int .i64 (m : Int)] w fun e w' => e = .returned (.bool (withinX a n m)) ∧ Below w.heap.size w w' := by
  have HP : Hid (withinX a n m = decide (a.num / 2 ^ (32 - m) = n.num / 2 ^ (32 - m))) := by
    show _ = _
    unfold withinX
    rw [show ((32 : Int) - (m : Int)).toNat = 32 - m from by omega]
    congr 1
    simp
    omega
  have hga := ip_lt a
  have hgn := ip_lt n
  obtain ⟨w1, hw1⟩ : ∃ w1, (w.alloc (.cells (ipA a) 26)).alloc (.cells (ipA n) 26) = w1 := ⟨_, rfl⟩
  have HB1 : Hid (Below w.heap.size w w1) := by rw [← hw1]; exact ((Below.refl _ _).alloc (Nat.le_refl _) _).alloc (by simp) _
  have HX0 : Hid (w1.heap[w.heap.size]? = some (.cells (ipA a) 26 (0, 0))) := by rw [← hw1]; exact old_alloc (heap_alloc_new w _) _
  have HX1 : Hid (w1.heap[w.heap.size + 1]? = some (.cells (ipA n) 26 (0, 0))) := by rw [← hw1]; exact new_at1 w _ _
  have HW := Lib.hid hw1
  have KA := Lib.hid (all_part0 (D := ipA a) (var_all HX0.out) fun _ _ h => h)
  have KB := Lib.hid (all_part0 (D := ipA n) (var_all HX1.out) fun _ _ h => h)
  have WA : Hid (∀ w, Calls Try.prog 29 #[.agg (ipA a)] w fun e w' => e = .returned (.int .i64 (a.num : Int)) ∧ Below w.heap.size w w') := fun w => word04_any a w
  have WB : Hid (∀ w, Calls Try.prog 29 #[.agg (ipA n)] w fun e w' => e = .returned (.int .i64 (n.num : Int)) ∧ Below w.heap.size w w') := fun w => word04_any n w
  have SA : Hid ((ipA a).size = 4) := ipE.size _
  have SB : Hid ((ipA n).size = 4) := ipE.size _
  rw [HP.out]
  clear HP hw1 HX0 HX1
  generalize ipA a = CA at *
  generalize ipA n = CB at *
  generalize a.num = g at *
  generalize n.num = h at *
  generalize hbb : w.heap.size + 1 = bb at KB
  have HBB := Lib.hid hbb
  clear hbb
  have hm0 : ¬ (m : Int) < 0 := by omega
  have hm32 : ¬ 32 < (m : Int) := by omega
  go_enter Try.func17, Try.ntmps17
  go_upto_region 3 with (fail)
  change Code.wp _ _ _ _ ((w.alloc (.cells CA 26)).alloc (.cells CB 26))
  rw [HW.out, HBB.out]
  clear HW HBB
  refine wp_region_quiet_below (by kernel_rfl) (by kernel_rfl) ?_
  (refine wpQuiet_step (fun K hK => ?_); refine quiet_load_at (by kernel_rfl) 26 _ rfl (⟨w.heap.size, 0, none⟩ : Addr) (by first | rfl | (simp [Act.eval, Addr.add_mid])) CA _ KA.out Try.underlying26 rfl (by rw [SA.out]; kernel_rfl) ?_; refine hK _ ?_; clear hK K; go_frame)
  quiet_step (first | (go_at_call 29; exact Calls.regrown_of (WA.out _)))
  (refine wpQuiet_step (fun K hK => ?_); refine quiet_load_at (by kernel_rfl) 26 _ rfl (⟨bb, 0, none⟩ : Addr) (by first | rfl | (simp [Act.eval, Addr.add_mid])) CB _ KB.out Try.underlying26 rfl (by rw [SB.out]; kernel_rfl) ?_; refine hK _ ?_; clear hK K; go_frame)
  quiet_step (first | (go_at_call 29; exact Calls.regrown_of (WB.out _)))
  (first | go_big_quiet_step (fail) | quiet_step (fail))
  (first | go_big_quiet_step (fail) | quiet_step (fail))
  refine wpQuiet_nil ?_
  intro w9 hw9
  obtain ⟨⟨dq, osq⟩, rfl⟩ := hw9
  have HB2 := Lib.hid ((HB1.out).trans ((below_regrown w1 dq osq).mono (HB1.out).size))
  generalize Sort.grow (redrawn w1 dq) osq = w2 at *
  clear KA KB WA WB SA SB HB1
  go_wp2
  go_loop [7, 8, 9] (fun x y i => ∃ j : Nat, m + j ≤ 32 ∧ i = .int .i64 ((m + j : Nat) : Int) ∧ x = .int .i64 ((g / 2 ^ j : Nat) : Int) ∧ y = .int .i64 ((h / 2 ^ j : Nat) : Int)) (fun _ _ i => 32 - (intOf i).toNat)
  case atStart => exact ⟨0, hb, rfl, by simp, by simp⟩
  case round =>
    obtain ⟨j, hj, rfl, rfl, rfl⟩ := hrel
    have HG := Lib.hid (halve2 g j)
    have HH := Lib.hid (halve2 h j)
    have hgl : g / 2 ^ j ≤ g := Nat.div_le_self _ _
    have hhl : h / 2 ^ j ≤ h := Nat.div_le_self _ _
    by_cases hjs : m + j < 32
    · generalize g / 2 ^ j = g1 at *
      generalize h / 2 ^ j = h1 at *
      obtain ⟨q, hq⟩ : ∃ q, m + j = q := ⟨_, rfl⟩
      rw [hq]
      rw [hq] at hjs
      have HQ := Lib.hid hq
      clear hq hj
      go_wp2
      go_round
      case rel => exact ⟨j + 1, by have := HQ.out; omega, by have := HQ.out; congr 1; omega, by rw [HG.out]; congr 1, by rw [HH.out]; congr 1⟩
      case measure => simp [intOf]; omega
    · obtain rfl : j = 32 - m := by omega
      have hq : m + (32 - m) = 32 := by omega
      rw [hq]
      obtain ⟨g1, hg1⟩ : ∃ g1, g / 2 ^ (32 - m) = g1 := ⟨_, rfl⟩
      obtain ⟨h1, hh1⟩ : ∃ h1, h / 2 ^ (32 - m) = h1 := ⟨_, rfl⟩
      have HG1 := Lib.hid hg1
      have HH1 := Lib.hid hh1
      rw [hg1] at hgl
      rw [hh1] at hhl
      rw [hg1, hh1]
      clear hq hjs hj hg1 hh1
      go_wp2
      go_ret
      rw [HG1.out, HH1.out]
      exact ⟨congrArg (fun b => Ending.returned (Value.bool b)) (Bool.eq_iff_iff.2 (by simp <;> omega)), HB2.out⟩
/-- the document's Within -/
theorem refwithin_any (a n : Ip) (bits : Int) (w : World) :
    Calls Try.prog 17 #[.agg (ipA a), .agg (ipA n), .int .i64 bits] w fun e w' => e = .returned (.bool (withinX a n bits)) ∧ Below w.heap.size w w' := by
  by_cases h : bits < 0 ∨ 32 < bits
  · exact refwithin_out a n bits w h
  · obtain ⟨m, rfl⟩ := Int.eq_ofNat_of_zero_le (show 0 ≤ bits by omega)
    exact refwithin_in a n m w (by omega)
end Go.Proofs.Ytfifigokglmjlaa
