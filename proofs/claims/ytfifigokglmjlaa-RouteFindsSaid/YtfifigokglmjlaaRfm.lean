/-
  The document's word, Mask, First of routes. Every address, every number of bits from 0 to 32.
-/
import Derived.Test.YtfifigokglmjlaaRo
namespace Go.Proofs.Ytfifigokglmjlaa
open Go.RowKit

theorem word14_any (a : Ip) (w : World) : Calls Try.prog 34 #[.agg (ipA a)] w fun e w' => e = .returned (.int .i64 (a.num : Int)) ∧ Below w.heap.size w w' := by
  obtain ⟨x0, x1, x2, x3⟩ := a
  have h0 := x0.toNat_lt
  have h1 := x1.toNat_lt
  have h2 := x2.toNat_lt
  have h3 := x3.toNat_lt
  have HV : Hid (((Ip.num ⟨x0, x1, x2, x3⟩ : Nat) : Int) = (((x0.toNat : Int) * 256 + (x1.toNat : Int)) * 256 + (x2.toNat : Int)) * 256 + (x3.toNat : Int)) := by
    show _ = _
    unfold Ip.num
    dsimp only
    omega
  rw [HV.out]
  simp only [ipA]
  generalize x0.toNat = y0 at h0 ⊢
  generalize x1.toNat = y1 at h1 ⊢
  generalize x2.toNat = y2 at h2 ⊢
  generalize x3.toNat = y3 at h3 ⊢
  clear HV
  go_enter Try.func34, Try.ntmps34
  go_wp2
  go_ret
  exact ⟨rfl, (Below.refl _ _).alloc (Nat.le_refl _) _⟩
def Z4 : Array Value := #[.int .u8 0, .int .u8 0, .int .u8 0, .int .u8 0]
theorem pow_step (j : Nat) : 2 ^ (j + 1) = 2 ^ j * 2 := Nat.pow_succ ..
theorem mask_any (a : Ip) (b : Nat) (w : World) (hb : b ≤ 32) : Calls Try.prog 25 #[.agg (ipA a), .int .i64 (b : Int)] w fun e w' => e = .returned (.agg (ipA (maskX a b))) ∧ Below w.heap.size w w' := by
  have HB1 : Hid (Below w.heap.size w ((w.alloc (.cells (ipA a) 26)).alloc (.cells Z4 26))) := ((Below.refl _ _).alloc (Nat.le_refl _) _).alloc (by simp) _
  have HX0 : Hid (((w.alloc (.cells (ipA a) 26)).alloc (.cells Z4 26)).heap[w.heap.size]? = some (.cells (ipA a) 26 (0, 0))) := old_alloc (heap_alloc_new w _) _
  have HX1 : Hid (((w.alloc (.cells (ipA a) 26)).alloc (.cells Z4 26)).heap[w.heap.size + 1]? = some (.cells Z4 26 (0, 0))) := new_at1 w _ _
  obtain ⟨w1, hw1⟩ : ∃ w1, (w.alloc (.cells (ipA a) 26)).alloc (.cells Z4 26) = w1 := ⟨_, rfl⟩
  rw [hw1] at HB1 HX0 HX1
  have HW := Lib.hid hw1
  clear hw1
  have hlt := ip_lt a
  have hmn := maskN_le a.num b
  have HM : Hid (ipA (maskX a b) = #[.int .u8 ((maskN a.num b : Int) / 16777216), .int .u8 ((maskN a.num b : Int) / 65536 % 256), .int .u8 ((maskN a.num b : Int) / 256 % 256), .int .u8 ((maskN a.num b : Int) % 256)]) := by
    have hm := Nat.lt_of_le_of_lt hmn hlt
    show _ = _
    unfold maskX ipA ipOf
    simp only [UInt8.toNat_ofNat']
    generalize maskN a.num b = m at hm
    rw [show ((m / 16777216 % 2 ^ 8 : Nat) : Int) = (m : Int) / 16777216 from by omega, show ((m / 65536 % 2 ^ 8 : Nat) : Int) = (m : Int) / 65536 % 256 from by omega, show ((m / 256 % 2 ^ 8 : Nat) : Int) = (m : Int) / 256 % 256 from by omega, show ((m % 2 ^ 8 : Nat) : Int) = (m : Int) % 256 from by omega]
  have HWD : Hid (∀ w, Calls Try.prog 34 #[.agg (ipA a)] w fun e w' => e = .returned (.int .i64 (a.num : Int)) ∧ Below w.heap.size w w') := fun w => word14_any a w
  have HD : Hid (maskN a.num b = a.num / 2 ^ (32 - b) * 2 ^ (32 - b)) := rfl
  generalize maskN a.num b = m at hmn HM HD
  generalize a.num = n at hlt hmn HWD HD
  go_enter Try.func25, Try.ntmps25
  go_upto_region 1 with (fail)
  change Code.wp _ _ _ _ ((w.alloc (.cells (ipA a) 26)).alloc (.cells Z4 26))
  rw [HW.out]
  clear HW
  go_wp2_with (refine wpList_load_row rfl 26 _ rfl w.heap.size rfl 26 (ipA a) (0, 0) _ HX0.out Try.underlying26 rfl (by kernel_rfl) ?_)
  refine (HWD.out _).mono ?_
  rintro e w2 ⟨rfl, hb2⟩
  have HX2 := Lib.hid (old_below HX1.out hb2 (row_lt HX1.out))
  have HB2 := Lib.hid (HB1.out.trans (hb2.mono HB1.out.size))
  clear hb2 HX0 HX1 HB1 HWD
  go_wp2
  go_loop [6, 7] (fun u i => ∃ j : Nat, b + j ≤ 32 ∧ i = .int .i64 ((b + j : Nat) : Int) ∧ u = .int .i64 ((2 ^ j : Nat) : Int)) (fun _ i => 32 - (intOf i).toNat)
  case atStart => exact ⟨0, hb, rfl, rfl⟩
  case round =>
    obtain ⟨j, hj, rfl, rfl⟩ := hrel
    have HS := Lib.hid (pow_step j)
    have hp : 2 ^ j ≤ 2 ^ 32 := Nat.pow_le_pow_right (by omega) (by omega)
    have hp0 : 0 < 2 ^ j := Nat.two_pow_pos _
    have hp2 : 2 ^ j ≤ 4294967296 := hp
    clear hp
    by_cases hjs : b + j < 32
    · obtain ⟨q, hq⟩ : ∃ q, b + j = q := ⟨_, rfl⟩
      rw [hq]
      rw [hq] at hjs
      have HQ := Lib.hid hq
      generalize 2 ^ j = u at *
      clear hq hj
      go_wp2
      go_round
      case rel => exact ⟨j + 1, by have := HQ.out; omega, by have := HQ.out; congr 1; omega, by rw [HS.out]; rfl⟩
      case measure => simp [intOf]; omega
    · obtain rfl : j = 32 - b := by omega
      have hq : b + (32 - b) = 32 := by omega
      rw [hq]
      generalize 2 ^ (32 - b) = u at *
      have hnu : (n : Int) / (u : Int) * (u : Int) = (m : Int) := by rw [HD.out]; push_cast; rfl
      have hnu1 : (n : Int) / (u : Int) ≤ n := by
        have := Nat.div_le_self n u
        omega
      clear hq hjs hj
      obtain ⟨g, hg⟩ : ∃ g, w.heap.size + 1 = g := ⟨_, rfl⟩
      rw [hg] at HX2 ⊢
      have HG := Lib.hid hg
      clear hg
      have hw5 : wrap64 (wrap64 ((n : Int) / (u : Int)) * (u : Int)) = (m : Int) := by
        have h0 : 0 ≤ (n : Int) / (u : Int) := Int.ediv_nonneg (by omega) (by omega)
        have e1 : wrap64 ((n : Int) / (u : Int)) = (n : Int) / (u : Int) := by unfold wrap64; omega
        rw [e1, hnu]
        unfold wrap64
        omega
      clear hnu hnu1
      go_upto_region 7 with (fail)
      rw [hw5]
      clear hw5
      go_wp2_with (refine wpList_store_row rfl 26 _ _ rfl g #[.int .u8 ((m : Int) / 16777216), .int .u8 ((m : Int) / 65536 % 256), .int .u8 ((m : Int) / 256 % 256), .int .u8 ((m : Int) % 256)] rfl rfl 26 Z4 HX2.out (by kernel_rfl) rfl (by simp [Value.oneCell']) ?_)
      refine ret_one (g := g) rfl rfl (setRow_heap _ _ _ _ _ _ HX2.out) Try.underlying26 rfl (by kernel_rfl) rfl ?_
      rw [HM.out]
      exact ⟨rfl, below_setRow HB2.out (by have := HG.out; omega) _⟩
end Go.Proofs.Ytfifigokglmjlaa
