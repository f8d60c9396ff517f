/-
  route.may, route.bare. Every number of bits; every address, every number of bits from 0 to 32.
-/
import Derived.Test.YtfifigokglmjlaaRfw
namespace Go.Proofs.Ytfifigokglmjlaa
open Go.RowKit

def mayX (z : Int) : Bool := decide (0 ≤ z ∧ z ≤ 32)
theorem may_any (z : Int) (w : World) : Calls Try.prog 21 #[.int .i64 z] w fun e w' => e = .returned (.bool (mayX z)) ∧ w = w' := by
  rcases Int.lt_or_le z 0 with h | h
  · rw [show mayX z = false from decide_eq_false (by omega)]
    go_enter Try.func21, Try.ntmps21
    go_wp2
    go_ret
    exact ⟨rfl, rfl⟩
  · rcases Int.lt_or_le 32 z with h2 | h2
    · rw [show mayX z = false from decide_eq_false (by omega)]
      have h3 : ¬ z ≤ 32 := by omega
      go_enter Try.func21, Try.ntmps21
      go_wp2
      go_ret
      exact ⟨rfl, rfl⟩
    · rw [show mayX z = true from decide_eq_true ⟨h, h2⟩]
      go_enter Try.func21, Try.ntmps21
      go_wp2
      go_ret
      exact ⟨rfl, rfl⟩

/-- a byte with noughts behind its first m bits -/
def mb (x : UInt8) (m : Nat) : UInt8 := UInt8.ofNat (x.toNat / 2 ^ (8 - m) * 2 ^ (8 - m))
theorem mb_val (x : UInt8) (m : Nat) : (mb x m).toNat = x.toNat / 2 ^ (8 - m) * 2 ^ (8 - m) := by
  unfold mb
  rw [UInt8.toNat_ofNat', Nat.mod_eq_of_lt]
  exact Nat.lt_of_le_of_lt (Nat.div_mul_le_self _ _) x.toNat_lt
theorem mb_bits : ∀ (n : Fin 256) (m : Fin 9), bits BinOp.andNot IntKind.u8 ((n.val : Nat) : Int) ((255 / 2 ^ m.val : Nat) : Int) = ((n.val / 2 ^ (8 - m.val) * 2 ^ (8 - m.val) : Nat) : Int) := by decide +kernel
theorem mb_is (x : UInt8) (m : Nat) (hm : m ≤ 8) (c : Int) (hc : c = ((255 / 2 ^ m : Nat) : Int)) : bits BinOp.andNot IntKind.u8 (x.toNat : Int) c = ((mb x m).toNat : Int) := by
  rw [mb_val, hc]
  exact mb_bits ⟨x.toNat, x.toNat_lt⟩ ⟨m, by omega⟩
/-- of an address with b first bits: those of byte k -/
def mk (b k : Nat) : Nat := min (b - 8 * k) 8
theorem mask_bytes (a : Ip) (b : Nat) (hb : b ≤ 32) : (⟨mb a.x0 (mk b 0), mb a.x1 (mk b 1), mb a.x2 (mk b 2), mb a.x3 (mk b 3)⟩ : Ip) = maskX a b := by
  refine ip_inj ?_
  rw [mask_num]
  unfold Ip.num
  simp only [mb_val]
  have h0 := a.x0.toNat_lt
  have h1 := a.x1.toNat_lt
  have h2 := a.x2.toNat_lt
  have h3 := a.x3.toNat_lt
  generalize a.x0.toNat = y0 at *
  generalize a.x1.toNat = y1 at *
  generalize a.x2.toNat = y2 at *
  generalize a.x3.toNat = y3 at *
  unfold maskN mk
  rcases (show b = 0 ∨ b = 1 ∨ b = 2 ∨ b = 3 ∨ b = 4 ∨ b = 5 ∨ b = 6 ∨ b = 7 ∨ b = 8 ∨ b = 9 ∨ b = 10 ∨ b = 11 ∨ b = 12 ∨ b = 13 ∨ b = 14 ∨ b = 15 ∨ b = 16 ∨ b = 17 ∨ b = 18 ∨ b = 19 ∨ b = 20 ∨ b = 21 ∨ b = 22 ∨ b = 23 ∨ b = 24 ∨ b = 25 ∨ b = 26 ∨ b = 27 ∨ b = 28 ∨ b = 29 ∨ b = 30 ∨ b = 31 ∨ b = 32 by omega) with rfl | rfl | rfl | rfl | rfl | rfl | rfl | rfl | rfl | rfl | rfl | rfl | rfl | rfl | rfl | rfl | rfl | rfl | rfl | rfl | rfl | rfl | rfl | rfl | rfl | rfl | rfl | rfl | rfl | rfl | rfl | rfl | rfl
  all_goals
    try simp
    try omega
/-- an address of which the first k bytes are turned -/
def mixI (a : Ip) (b k : Nat) : Ip := ⟨if 0 < k then mb a.x0 (mk b 0) else a.x0, if 1 < k then mb a.x1 (mk b 1) else a.x1, if 2 < k then mb a.x2 (mk b 2) else a.x2, if 3 < k then mb a.x3 (mk b 3) else a.x3⟩
set_option maxRecDepth 100000 in
set_option maxHeartbeats 4000000 in
theorem bare_any (a : Ip) (b : Nat) (w : World) (hb : b ≤ 32) : Calls Try.prog 22 #[.agg (ipA a), .int .i64 (b : Int)] w fun e w' => e = .returned (.agg (ipA (maskX a b))) ∧ Below w.heap.size w w' := by
  have HM := Lib.hid (mask_bytes a b hb)
  obtain ⟨w1, hw1⟩ : ∃ w1, (w.alloc (.cells (ipA a) 26)).alloc (.cells Z4 26) = w1 := ⟨_, rfl⟩
  have HB1 : Hid (Below w.heap.size w w1) := by rw [← hw1]; exact ((Below.refl _ _).alloc (Nat.le_refl _) _).alloc (by simp) _
  have HX0 : Hid (w1.heap[w.heap.size]? = some (.cells (ipA (mixI a b 0)) 26 (0, 0))) := by rw [← hw1]; exact old_alloc (heap_alloc_new w _) _
  have HX1 : Hid (w1.heap[w.heap.size + 1]? = some (.cells Z4 26 (0, 0))) := by rw [← hw1]; exact new_at1 w _ _
  have HW := Lib.hid hw1
  generalize hg : w.heap.size = g at HX0 HX1
  have HG := Lib.hid hg
  clear hw1 hg
  go_enter Try.func22, Try.ntmps22
  go_upto_region 1 with (fail)
  change Code.wp _ _ _ _ ((w.alloc (.cells (ipA a) 26)).alloc (.cells Z4 26))
  rw [HW.out]
  clear HW
  rw [HG.out] at HB1
  rw [HG.out]
  go_wp2
  go_loopw [7] (fun t7 wr => ∃ k : Nat, k ≤ 4 ∧ t7 = .int .i64 (k : Int) ∧ Hid (wr.heap[g]? = some (.cells (ipA (mixI a b k)) 26 (0, 0))) ∧ Hid (wr.heap[g + 1]? = some (.cells Z4 26 (0, 0))) ∧ Hid (Below g w wr)) (fun t7 _ => 4 - (intOf t7).toNat)
  case atStart => exact ⟨0, Nat.zero_le _, rfl, HX0, HX1, HB1⟩
  case round =>
    obtain ⟨k, hk, rfl, HY0, HY1, HBW⟩ := hrel
    clear HX0 HX1 HB1
    rcases (show k = 0 ∨ k = 1 ∨ k = 2 ∨ k = 3 ∨ k = 4 by omega) with rfl | rfl | rfl | rfl | rfl
    · have hmk : mk b 0 = min (b - 0) 8 := rfl
      have HCE : Hid (ipA (mixI a b 0) = #[.int .u8 ((a.x0).toNat : Int), .int .u8 ((a.x1).toNat : Int), .int .u8 ((a.x2).toNat : Int), .int .u8 ((a.x3).toNat : Int)]) := rfl
      rw [HCE.out] at HY0
      obtain ⟨c0, c1, c2, c3⟩ := four_cells HY0.out
      have hfz := frozen_of_row _ _ 0 _ _ HY0.out
      rcases (show (b : Int) - 0 = 0 ∨ (b : Int) - 0 = 1 ∨ (b : Int) - 0 = 2 ∨ (b : Int) - 0 = 3 ∨ (b : Int) - 0 = 4 ∨ (b : Int) - 0 = 5 ∨ (b : Int) - 0 = 6 ∨ (b : Int) - 0 = 7 ∨ (b : Int) - 0 = 8 ∨ 8 < (b : Int) - 0 by omega) with hv | hv | hv | hv | hv | hv | hv | hv | hv | hv
      · have HK : Hid (mk b 0 = 0) := by show _ = _; omega
        have HV := Lib.hid (mb_is a.x0 0 (by omega) 255 rfl)
        have hb0 : 0 ≤ (b : Int) := by omega
        clear hmk
        go_upto_region 5 with (fail)
        go_region
        clear hv
        rw [HV.out]
        have HZ0 : Hid (((wr.setCell ⟨g, 0, none⟩ (.int .u8 ((mb a.x0 0).toNat : Int))).drew).heap[g]? = some (.cells (ipA (mixI a b 1)) 26 (0, 0))) := by
          have := heap_setCell_same _ g 0 _ _ (.int .u8 ((mb a.x0 0).toNat : Int)) HY0.out
          rw [show ipA (mixI a b 1) = #[.int .u8 ((mb a.x0 (mk b 0)).toNat : Int), .int .u8 ((a.x1).toNat : Int), .int .u8 ((a.x2).toNat : Int), .int .u8 ((a.x3).toNat : Int)] from rfl, HK.out]
          exact this
        have HZ1 : Hid (((wr.setCell ⟨g, 0, none⟩ (.int .u8 ((mb a.x0 0).toNat : Int))).drew).heap[g + 1]? = some (.cells Z4 26 (0, 0))) := (heap_setCell_other _ _ _ _ (by simp)).trans HY1.out
        have HZB : Hid (Below g w ((wr.setCell ⟨g, 0, none⟩ (.int .u8 ((mb a.x0 0).toNat : Int))).drew)) := below_drewN' (HBW.out.setCell (p := ⟨g, 0, none⟩) (Nat.le_refl _) _) 1
        generalize (wr.setCell ⟨g, 0, none⟩ (.int .u8 ((mb a.x0 0).toNat : Int))).drew = w2 at HZ0 HZ1 HZB ⊢
        clear HV HY0 HY1 HBW c0 c1 c2 c3 hfz HK HCE
        go_wp2
        go_roundw
        case rel => exact ⟨1, by omega, by go_num, HZ0, HZ1, HZB⟩
        case measure => simp [intOf]
      · have HK : Hid (mk b 0 = 1) := by show _ = _; omega
        have HV := Lib.hid (mb_is a.x0 1 (by omega) 127 rfl)
        have hb0 : 0 ≤ (b : Int) := by omega
        clear hmk
        go_upto_region 5 with (fail)
        go_region
        clear hv
        rw [HV.out]
        have HZ0 : Hid (((wr.setCell ⟨g, 0, none⟩ (.int .u8 ((mb a.x0 1).toNat : Int))).drew).heap[g]? = some (.cells (ipA (mixI a b 1)) 26 (0, 0))) := by
          have := heap_setCell_same _ g 0 _ _ (.int .u8 ((mb a.x0 1).toNat : Int)) HY0.out
          rw [show ipA (mixI a b 1) = #[.int .u8 ((mb a.x0 (mk b 0)).toNat : Int), .int .u8 ((a.x1).toNat : Int), .int .u8 ((a.x2).toNat : Int), .int .u8 ((a.x3).toNat : Int)] from rfl, HK.out]
          exact this
        have HZ1 : Hid (((wr.setCell ⟨g, 0, none⟩ (.int .u8 ((mb a.x0 1).toNat : Int))).drew).heap[g + 1]? = some (.cells Z4 26 (0, 0))) := (heap_setCell_other _ _ _ _ (by simp)).trans HY1.out
        have HZB : Hid (Below g w ((wr.setCell ⟨g, 0, none⟩ (.int .u8 ((mb a.x0 1).toNat : Int))).drew)) := below_drewN' (HBW.out.setCell (p := ⟨g, 0, none⟩) (Nat.le_refl _) _) 1
        generalize (wr.setCell ⟨g, 0, none⟩ (.int .u8 ((mb a.x0 1).toNat : Int))).drew = w2 at HZ0 HZ1 HZB ⊢
        clear HV HY0 HY1 HBW c0 c1 c2 c3 hfz HK HCE
        go_wp2
        go_roundw
        case rel => exact ⟨1, by omega, by go_num, HZ0, HZ1, HZB⟩
        case measure => simp [intOf]
      · have HK : Hid (mk b 0 = 2) := by show _ = _; omega
        have HV := Lib.hid (mb_is a.x0 2 (by omega) 63 rfl)
        have hb0 : 0 ≤ (b : Int) := by omega
        clear hmk
        go_upto_region 5 with (fail)
        go_region
        clear hv
        rw [HV.out]
        have HZ0 : Hid (((wr.setCell ⟨g, 0, none⟩ (.int .u8 ((mb a.x0 2).toNat : Int))).drew).heap[g]? = some (.cells (ipA (mixI a b 1)) 26 (0, 0))) := by
          have := heap_setCell_same _ g 0 _ _ (.int .u8 ((mb a.x0 2).toNat : Int)) HY0.out
          rw [show ipA (mixI a b 1) = #[.int .u8 ((mb a.x0 (mk b 0)).toNat : Int), .int .u8 ((a.x1).toNat : Int), .int .u8 ((a.x2).toNat : Int), .int .u8 ((a.x3).toNat : Int)] from rfl, HK.out]
          exact this
        have HZ1 : Hid (((wr.setCell ⟨g, 0, none⟩ (.int .u8 ((mb a.x0 2).toNat : Int))).drew).heap[g + 1]? = some (.cells Z4 26 (0, 0))) := (heap_setCell_other _ _ _ _ (by simp)).trans HY1.out
        have HZB : Hid (Below g w ((wr.setCell ⟨g, 0, none⟩ (.int .u8 ((mb a.x0 2).toNat : Int))).drew)) := below_drewN' (HBW.out.setCell (p := ⟨g, 0, none⟩) (Nat.le_refl _) _) 1
        generalize (wr.setCell ⟨g, 0, none⟩ (.int .u8 ((mb a.x0 2).toNat : Int))).drew = w2 at HZ0 HZ1 HZB ⊢
        clear HV HY0 HY1 HBW c0 c1 c2 c3 hfz HK HCE
        go_wp2
        go_roundw
        case rel => exact ⟨1, by omega, by go_num, HZ0, HZ1, HZB⟩
        case measure => simp [intOf]
      · have HK : Hid (mk b 0 = 3) := by show _ = _; omega
        have HV := Lib.hid (mb_is a.x0 3 (by omega) 31 rfl)
        have hb0 : 0 ≤ (b : Int) := by omega
        clear hmk
        go_upto_region 5 with (fail)
        go_region
        clear hv
        rw [HV.out]
        have HZ0 : Hid (((wr.setCell ⟨g, 0, none⟩ (.int .u8 ((mb a.x0 3).toNat : Int))).drew).heap[g]? = some (.cells (ipA (mixI a b 1)) 26 (0, 0))) := by
          have := heap_setCell_same _ g 0 _ _ (.int .u8 ((mb a.x0 3).toNat : Int)) HY0.out
          rw [show ipA (mixI a b 1) = #[.int .u8 ((mb a.x0 (mk b 0)).toNat : Int), .int .u8 ((a.x1).toNat : Int), .int .u8 ((a.x2).toNat : Int), .int .u8 ((a.x3).toNat : Int)] from rfl, HK.out]
          exact this
        have HZ1 : Hid (((wr.setCell ⟨g, 0, none⟩ (.int .u8 ((mb a.x0 3).toNat : Int))).drew).heap[g + 1]? = some (.cells Z4 26 (0, 0))) := (heap_setCell_other _ _ _ _ (by simp)).trans HY1.out
        have HZB : Hid (Below g w ((wr.setCell ⟨g, 0, none⟩ (.int .u8 ((mb a.x0 3).toNat : Int))).drew)) := below_drewN' (HBW.out.setCell (p := ⟨g, 0, none⟩) (Nat.le_refl _) _) 1
        generalize (wr.setCell ⟨g, 0, none⟩ (.int .u8 ((mb a.x0 3).toNat : Int))).drew = w2 at HZ0 HZ1 HZB ⊢
        clear HV HY0 HY1 HBW c0 c1 c2 c3 hfz HK HCE
        go_wp2
        go_roundw
        case rel => exact ⟨1, by omega, by go_num, HZ0, HZ1, HZB⟩
        case measure => simp [intOf]
      · have HK : Hid (mk b 0 = 4) := by show _ = _; omega
        have HV := Lib.hid (mb_is a.x0 4 (by omega) 15 rfl)
        have hb0 : 0 ≤ (b : Int) := by omega
        clear hmk
        go_upto_region 5 with (fail)
        go_region
        clear hv
        rw [HV.out]
        have HZ0 : Hid (((wr.setCell ⟨g, 0, none⟩ (.int .u8 ((mb a.x0 4).toNat : Int))).drew).heap[g]? = some (.cells (ipA (mixI a b 1)) 26 (0, 0))) := by
          have := heap_setCell_same _ g 0 _ _ (.int .u8 ((mb a.x0 4).toNat : Int)) HY0.out
          rw [show ipA (mixI a b 1) = #[.int .u8 ((mb a.x0 (mk b 0)).toNat : Int), .int .u8 ((a.x1).toNat : Int), .int .u8 ((a.x2).toNat : Int), .int .u8 ((a.x3).toNat : Int)] from rfl, HK.out]
          exact this
        have HZ1 : Hid (((wr.setCell ⟨g, 0, none⟩ (.int .u8 ((mb a.x0 4).toNat : Int))).drew).heap[g + 1]? = some (.cells Z4 26 (0, 0))) := (heap_setCell_other _ _ _ _ (by simp)).trans HY1.out
        have HZB : Hid (Below g w ((wr.setCell ⟨g, 0, none⟩ (.int .u8 ((mb a.x0 4).toNat : Int))).drew)) := below_drewN' (HBW.out.setCell (p := ⟨g, 0, none⟩) (Nat.le_refl _) _) 1
        generalize (wr.setCell ⟨g, 0, none⟩ (.int .u8 ((mb a.x0 4).toNat : Int))).drew = w2 at HZ0 HZ1 HZB ⊢
        clear HV HY0 HY1 HBW c0 c1 c2 c3 hfz HK HCE
        go_wp2
        go_roundw
        case rel => exact ⟨1, by omega, by go_num, HZ0, HZ1, HZB⟩
        case measure => simp [intOf]
      · have HK : Hid (mk b 0 = 5) := by show _ = _; omega
        have HV := Lib.hid (mb_is a.x0 5 (by omega) 7 rfl)
        have hb0 : 0 ≤ (b : Int) := by omega
        clear hmk
        go_upto_region 5 with (fail)
        go_region
        clear hv
        rw [HV.out]
        have HZ0 : Hid (((wr.setCell ⟨g, 0, none⟩ (.int .u8 ((mb a.x0 5).toNat : Int))).drew).heap[g]? = some (.cells (ipA (mixI a b 1)) 26 (0, 0))) := by
          have := heap_setCell_same _ g 0 _ _ (.int .u8 ((mb a.x0 5).toNat : Int)) HY0.out
          rw [show ipA (mixI a b 1) = #[.int .u8 ((mb a.x0 (mk b 0)).toNat : Int), .int .u8 ((a.x1).toNat : Int), .int .u8 ((a.x2).toNat : Int), .int .u8 ((a.x3).toNat : Int)] from rfl, HK.out]
          exact this
        have HZ1 : Hid (((wr.setCell ⟨g, 0, none⟩ (.int .u8 ((mb a.x0 5).toNat : Int))).drew).heap[g + 1]? = some (.cells Z4 26 (0, 0))) := (heap_setCell_other _ _ _ _ (by simp)).trans HY1.out
        have HZB : Hid (Below g w ((wr.setCell ⟨g, 0, none⟩ (.int .u8 ((mb a.x0 5).toNat : Int))).drew)) := below_drewN' (HBW.out.setCell (p := ⟨g, 0, none⟩) (Nat.le_refl _) _) 1
        generalize (wr.setCell ⟨g, 0, none⟩ (.int .u8 ((mb a.x0 5).toNat : Int))).drew = w2 at HZ0 HZ1 HZB ⊢
        clear HV HY0 HY1 HBW c0 c1 c2 c3 hfz HK HCE
        go_wp2
        go_roundw
        case rel => exact ⟨1, by omega, by go_num, HZ0, HZ1, HZB⟩
        case measure => simp [intOf]
      · have HK : Hid (mk b 0 = 6) := by show _ = _; omega
        have HV := Lib.hid (mb_is a.x0 6 (by omega) 3 rfl)
        have hb0 : 0 ≤ (b : Int) := by omega
        clear hmk
        go_upto_region 5 with (fail)
        go_region
        clear hv
        rw [HV.out]
        have HZ0 : Hid (((wr.setCell ⟨g, 0, none⟩ (.int .u8 ((mb a.x0 6).toNat : Int))).drew).heap[g]? = some (.cells (ipA (mixI a b 1)) 26 (0, 0))) := by
          have := heap_setCell_same _ g 0 _ _ (.int .u8 ((mb a.x0 6).toNat : Int)) HY0.out
          rw [show ipA (mixI a b 1) = #[.int .u8 ((mb a.x0 (mk b 0)).toNat : Int), .int .u8 ((a.x1).toNat : Int), .int .u8 ((a.x2).toNat : Int), .int .u8 ((a.x3).toNat : Int)] from rfl, HK.out]
          exact this
        have HZ1 : Hid (((wr.setCell ⟨g, 0, none⟩ (.int .u8 ((mb a.x0 6).toNat : Int))).drew).heap[g + 1]? = some (.cells Z4 26 (0, 0))) := (heap_setCell_other _ _ _ _ (by simp)).trans HY1.out
        have HZB : Hid (Below g w ((wr.setCell ⟨g, 0, none⟩ (.int .u8 ((mb a.x0 6).toNat : Int))).drew)) := below_drewN' (HBW.out.setCell (p := ⟨g, 0, none⟩) (Nat.le_refl _) _) 1
        generalize (wr.setCell ⟨g, 0, none⟩ (.int .u8 ((mb a.x0 6).toNat : Int))).drew = w2 at HZ0 HZ1 HZB ⊢
        clear HV HY0 HY1 HBW c0 c1 c2 c3 hfz HK HCE
        go_wp2
        go_roundw
        case rel => exact ⟨1, by omega, by go_num, HZ0, HZ1, HZB⟩
        case measure => simp [intOf]
      · have HK : Hid (mk b 0 = 7) := by show _ = _; omega
        have HV := Lib.hid (mb_is a.x0 7 (by omega) 1 rfl)
        have hb0 : 0 ≤ (b : Int) := by omega
        clear hmk
        go_upto_region 5 with (fail)
        go_region
        clear hv
        rw [HV.out]
        have HZ0 : Hid (((wr.setCell ⟨g, 0, none⟩ (.int .u8 ((mb a.x0 7).toNat : Int))).drew).heap[g]? = some (.cells (ipA (mixI a b 1)) 26 (0, 0))) := by
          have := heap_setCell_same _ g 0 _ _ (.int .u8 ((mb a.x0 7).toNat : Int)) HY0.out
          rw [show ipA (mixI a b 1) = #[.int .u8 ((mb a.x0 (mk b 0)).toNat : Int), .int .u8 ((a.x1).toNat : Int), .int .u8 ((a.x2).toNat : Int), .int .u8 ((a.x3).toNat : Int)] from rfl, HK.out]
          exact this
        have HZ1 : Hid (((wr.setCell ⟨g, 0, none⟩ (.int .u8 ((mb a.x0 7).toNat : Int))).drew).heap[g + 1]? = some (.cells Z4 26 (0, 0))) := (heap_setCell_other _ _ _ _ (by simp)).trans HY1.out
        have HZB : Hid (Below g w ((wr.setCell ⟨g, 0, none⟩ (.int .u8 ((mb a.x0 7).toNat : Int))).drew)) := below_drewN' (HBW.out.setCell (p := ⟨g, 0, none⟩) (Nat.le_refl _) _) 1
        generalize (wr.setCell ⟨g, 0, none⟩ (.int .u8 ((mb a.x0 7).toNat : Int))).drew = w2 at HZ0 HZ1 HZB ⊢
        clear HV HY0 HY1 HBW c0 c1 c2 c3 hfz HK HCE
        go_wp2
        go_roundw
        case rel => exact ⟨1, by omega, by go_num, HZ0, HZ1, HZB⟩
        case measure => simp [intOf]
      · have HK : Hid (mk b 0 = 8) := by show _ = _; omega
        have HV := Lib.hid (mb_is a.x0 8 (by omega) 0 rfl)
        have hb0 : 0 ≤ (b : Int) := by omega
        clear hmk
        go_upto_region 5 with (fail)
        go_region
        clear hv
        rw [HV.out]
        have HZ0 : Hid (((wr.setCell ⟨g, 0, none⟩ (.int .u8 ((mb a.x0 8).toNat : Int))).drew).heap[g]? = some (.cells (ipA (mixI a b 1)) 26 (0, 0))) := by
          have := heap_setCell_same _ g 0 _ _ (.int .u8 ((mb a.x0 8).toNat : Int)) HY0.out
          rw [show ipA (mixI a b 1) = #[.int .u8 ((mb a.x0 (mk b 0)).toNat : Int), .int .u8 ((a.x1).toNat : Int), .int .u8 ((a.x2).toNat : Int), .int .u8 ((a.x3).toNat : Int)] from rfl, HK.out]
          exact this
        have HZ1 : Hid (((wr.setCell ⟨g, 0, none⟩ (.int .u8 ((mb a.x0 8).toNat : Int))).drew).heap[g + 1]? = some (.cells Z4 26 (0, 0))) := (heap_setCell_other _ _ _ _ (by simp)).trans HY1.out
        have HZB : Hid (Below g w ((wr.setCell ⟨g, 0, none⟩ (.int .u8 ((mb a.x0 8).toNat : Int))).drew)) := below_drewN' (HBW.out.setCell (p := ⟨g, 0, none⟩) (Nat.le_refl _) _) 1
        generalize (wr.setCell ⟨g, 0, none⟩ (.int .u8 ((mb a.x0 8).toNat : Int))).drew = w2 at HZ0 HZ1 HZB ⊢
        clear HV HY0 HY1 HBW c0 c1 c2 c3 hfz HK HCE
        go_wp2
        go_roundw
        case rel => exact ⟨1, by omega, by go_num, HZ0, HZ1, HZB⟩
        case measure => simp [intOf]
      · have HK : Hid (mk b 0 = 8) := by show _ = _; omega
        have HV := Lib.hid (mb_is a.x0 8 (by omega) 0 rfl)
        have hb0 : 0 ≤ (b : Int) := by omega
        clear hmk
        go_upto_region 5 with (fail)
        go_region
        clear hv
        rw [HV.out]
        have HZ0 : Hid (((wr.setCell ⟨g, 0, none⟩ (.int .u8 ((mb a.x0 8).toNat : Int))).drew).heap[g]? = some (.cells (ipA (mixI a b 1)) 26 (0, 0))) := by
          have := heap_setCell_same _ g 0 _ _ (.int .u8 ((mb a.x0 8).toNat : Int)) HY0.out
          rw [show ipA (mixI a b 1) = #[.int .u8 ((mb a.x0 (mk b 0)).toNat : Int), .int .u8 ((a.x1).toNat : Int), .int .u8 ((a.x2).toNat : Int), .int .u8 ((a.x3).toNat : Int)] from rfl, HK.out]
          exact this
        have HZ1 : Hid (((wr.setCell ⟨g, 0, none⟩ (.int .u8 ((mb a.x0 8).toNat : Int))).drew).heap[g + 1]? = some (.cells Z4 26 (0, 0))) := (heap_setCell_other _ _ _ _ (by simp)).trans HY1.out
        have HZB : Hid (Below g w ((wr.setCell ⟨g, 0, none⟩ (.int .u8 ((mb a.x0 8).toNat : Int))).drew)) := below_drewN' (HBW.out.setCell (p := ⟨g, 0, none⟩) (Nat.le_refl _) _) 1
        generalize (wr.setCell ⟨g, 0, none⟩ (.int .u8 ((mb a.x0 8).toNat : Int))).drew = w2 at HZ0 HZ1 HZB ⊢
        clear HV HY0 HY1 HBW c0 c1 c2 c3 hfz HK HCE
        go_wp2
        go_roundw
        case rel => exact ⟨1, by omega, by go_num, HZ0, HZ1, HZB⟩
        case measure => simp [intOf]
    · have hmk : mk b 1 = min (b - 8) 8 := rfl
      have HCE : Hid (ipA (mixI a b 1) = #[.int .u8 ((mb a.x0 (mk b 0)).toNat : Int), .int .u8 ((a.x1).toNat : Int), .int .u8 ((a.x2).toNat : Int), .int .u8 ((a.x3).toNat : Int)]) := rfl
      rw [HCE.out] at HY0
      obtain ⟨c0, c1, c2, c3⟩ := four_cells HY0.out
      have hfz := frozen_of_row _ _ 1 _ _ HY0.out
      rcases (show (b : Int) - 8 < 0 ∨ (b : Int) - 8 = 0 ∨ (b : Int) - 8 = 1 ∨ (b : Int) - 8 = 2 ∨ (b : Int) - 8 = 3 ∨ (b : Int) - 8 = 4 ∨ (b : Int) - 8 = 5 ∨ (b : Int) - 8 = 6 ∨ (b : Int) - 8 = 7 ∨ (b : Int) - 8 = 8 ∨ 8 < (b : Int) - 8 by omega) with hv | hv | hv | hv | hv | hv | hv | hv | hv | hv | hv
      · have HK : Hid (mk b 1 = 0) := by show _ = _; omega
        have HV := Lib.hid (mb_is a.x1 0 (by omega) 255 rfl)
        have hb0 : 0 ≤ (b : Int) := by omega
        clear hmk
        go_upto_region 5 with (fail)
        go_region
        clear hv
        rw [HV.out]
        have HZ0 : Hid (((wr.setCell ⟨g, 1, none⟩ (.int .u8 ((mb a.x1 0).toNat : Int))).drew).heap[g]? = some (.cells (ipA (mixI a b 2)) 26 (0, 0))) := by
          have := heap_setCell_same _ g 1 _ _ (.int .u8 ((mb a.x1 0).toNat : Int)) HY0.out
          rw [show ipA (mixI a b 2) = #[.int .u8 ((mb a.x0 (mk b 0)).toNat : Int), .int .u8 ((mb a.x1 (mk b 1)).toNat : Int), .int .u8 ((a.x2).toNat : Int), .int .u8 ((a.x3).toNat : Int)] from rfl, HK.out]
          exact this
        have HZ1 : Hid (((wr.setCell ⟨g, 1, none⟩ (.int .u8 ((mb a.x1 0).toNat : Int))).drew).heap[g + 1]? = some (.cells Z4 26 (0, 0))) := (heap_setCell_other _ _ _ _ (by simp)).trans HY1.out
        have HZB : Hid (Below g w ((wr.setCell ⟨g, 1, none⟩ (.int .u8 ((mb a.x1 0).toNat : Int))).drew)) := below_drewN' (HBW.out.setCell (p := ⟨g, 1, none⟩) (Nat.le_refl _) _) 1
        generalize (wr.setCell ⟨g, 1, none⟩ (.int .u8 ((mb a.x1 0).toNat : Int))).drew = w2 at HZ0 HZ1 HZB ⊢
        clear HV HY0 HY1 HBW c0 c1 c2 c3 hfz HK HCE
        go_wp2
        go_roundw
        case rel => exact ⟨2, by omega, by go_num, HZ0, HZ1, HZB⟩
        case measure => simp [intOf]
      · have HK : Hid (mk b 1 = 0) := by show _ = _; omega
        have HV := Lib.hid (mb_is a.x1 0 (by omega) 255 rfl)
        have hb0 : 0 ≤ (b : Int) := by omega
        clear hmk
        go_upto_region 5 with (fail)
        go_region
        clear hv
        rw [HV.out]
        have HZ0 : Hid (((wr.setCell ⟨g, 1, none⟩ (.int .u8 ((mb a.x1 0).toNat : Int))).drew).heap[g]? = some (.cells (ipA (mixI a b 2)) 26 (0, 0))) := by
          have := heap_setCell_same _ g 1 _ _ (.int .u8 ((mb a.x1 0).toNat : Int)) HY0.out
          rw [show ipA (mixI a b 2) = #[.int .u8 ((mb a.x0 (mk b 0)).toNat : Int), .int .u8 ((mb a.x1 (mk b 1)).toNat : Int), .int .u8 ((a.x2).toNat : Int), .int .u8 ((a.x3).toNat : Int)] from rfl, HK.out]
          exact this
        have HZ1 : Hid (((wr.setCell ⟨g, 1, none⟩ (.int .u8 ((mb a.x1 0).toNat : Int))).drew).heap[g + 1]? = some (.cells Z4 26 (0, 0))) := (heap_setCell_other _ _ _ _ (by simp)).trans HY1.out
        have HZB : Hid (Below g w ((wr.setCell ⟨g, 1, none⟩ (.int .u8 ((mb a.x1 0).toNat : Int))).drew)) := below_drewN' (HBW.out.setCell (p := ⟨g, 1, none⟩) (Nat.le_refl _) _) 1
        generalize (wr.setCell ⟨g, 1, none⟩ (.int .u8 ((mb a.x1 0).toNat : Int))).drew = w2 at HZ0 HZ1 HZB ⊢
        clear HV HY0 HY1 HBW c0 c1 c2 c3 hfz HK HCE
        go_wp2
        go_roundw
        case rel => exact ⟨2, by omega, by go_num, HZ0, HZ1, HZB⟩
        case measure => simp [intOf]
      · have HK : Hid (mk b 1 = 1) := by show _ = _; omega
        have HV := Lib.hid (mb_is a.x1 1 (by omega) 127 rfl)
        have hb0 : 0 ≤ (b : Int) := by omega
        clear hmk
        go_upto_region 5 with (fail)
        go_region
        clear hv
        rw [HV.out]
        have HZ0 : Hid (((wr.setCell ⟨g, 1, none⟩ (.int .u8 ((mb a.x1 1).toNat : Int))).drew).heap[g]? = some (.cells (ipA (mixI a b 2)) 26 (0, 0))) := by
          have := heap_setCell_same _ g 1 _ _ (.int .u8 ((mb a.x1 1).toNat : Int)) HY0.out
          rw [show ipA (mixI a b 2) = #[.int .u8 ((mb a.x0 (mk b 0)).toNat : Int), .int .u8 ((mb a.x1 (mk b 1)).toNat : Int), .int .u8 ((a.x2).toNat : Int), .int .u8 ((a.x3).toNat : Int)] from rfl, HK.out]
          exact this
        have HZ1 : Hid (((wr.setCell ⟨g, 1, none⟩ (.int .u8 ((mb a.x1 1).toNat : Int))).drew).heap[g + 1]? = some (.cells Z4 26 (0, 0))) := (heap_setCell_other _ _ _ _ (by simp)).trans HY1.out
        have HZB : Hid (Below g w ((wr.setCell ⟨g, 1, none⟩ (.int .u8 ((mb a.x1 1).toNat : Int))).drew)) := below_drewN' (HBW.out.setCell (p := ⟨g, 1, none⟩) (Nat.le_refl _) _) 1
        generalize (wr.setCell ⟨g, 1, none⟩ (.int .u8 ((mb a.x1 1).toNat : Int))).drew = w2 at HZ0 HZ1 HZB ⊢
        clear HV HY0 HY1 HBW c0 c1 c2 c3 hfz HK HCE
        go_wp2
        go_roundw
        case rel => exact ⟨2, by omega, by go_num, HZ0, HZ1, HZB⟩
        case measure => simp [intOf]
      · have HK : Hid (mk b 1 = 2) := by show _ = _; omega
        have HV := Lib.hid (mb_is a.x1 2 (by omega) 63 rfl)
        have hb0 : 0 ≤ (b : Int) := by omega
        clear hmk
        go_upto_region 5 with (fail)
        go_region
        clear hv
        rw [HV.out]
        have HZ0 : Hid (((wr.setCell ⟨g, 1, none⟩ (.int .u8 ((mb a.x1 2).toNat : Int))).drew).heap[g]? = some (.cells (ipA (mixI a b 2)) 26 (0, 0))) := by
          have := heap_setCell_same _ g 1 _ _ (.int .u8 ((mb a.x1 2).toNat : Int)) HY0.out
          rw [show ipA (mixI a b 2) = #[.int .u8 ((mb a.x0 (mk b 0)).toNat : Int), .int .u8 ((mb a.x1 (mk b 1)).toNat : Int), .int .u8 ((a.x2).toNat : Int), .int .u8 ((a.x3).toNat : Int)] from rfl, HK.out]
          exact this
        have HZ1 : Hid (((wr.setCell ⟨g, 1, none⟩ (.int .u8 ((mb a.x1 2).toNat : Int))).drew).heap[g + 1]? = some (.cells Z4 26 (0, 0))) := (heap_setCell_other _ _ _ _ (by simp)).trans HY1.out
        have HZB : Hid (Below g w ((wr.setCell ⟨g, 1, none⟩ (.int .u8 ((mb a.x1 2).toNat : Int))).drew)) := below_drewN' (HBW.out.setCell (p := ⟨g, 1, none⟩) (Nat.le_refl _) _) 1
        generalize (wr.setCell ⟨g, 1, none⟩ (.int .u8 ((mb a.x1 2).toNat : Int))).drew = w2 at HZ0 HZ1 HZB ⊢
        clear HV HY0 HY1 HBW c0 c1 c2 c3 hfz HK HCE
        go_wp2
        go_roundw
        case rel => exact ⟨2, by omega, by go_num, HZ0, HZ1, HZB⟩
        case measure => simp [intOf]
      · have HK : Hid (mk b 1 = 3) := by show _ = _; omega
        have HV := Lib.hid (mb_is a.x1 3 (by omega) 31 rfl)
        have hb0 : 0 ≤ (b : Int) := by omega
        clear hmk
        go_upto_region 5 with (fail)
        go_region
        clear hv
        rw [HV.out]
        have HZ0 : Hid (((wr.setCell ⟨g, 1, none⟩ (.int .u8 ((mb a.x1 3).toNat : Int))).drew).heap[g]? = some (.cells (ipA (mixI a b 2)) 26 (0, 0))) := by
          have := heap_setCell_same _ g 1 _ _ (.int .u8 ((mb a.x1 3).toNat : Int)) HY0.out
          rw [show ipA (mixI a b 2) = #[.int .u8 ((mb a.x0 (mk b 0)).toNat : Int), .int .u8 ((mb a.x1 (mk b 1)).toNat : Int), .int .u8 ((a.x2).toNat : Int), .int .u8 ((a.x3).toNat : Int)] from rfl, HK.out]
          exact this
        have HZ1 : Hid (((wr.setCell ⟨g, 1, none⟩ (.int .u8 ((mb a.x1 3).toNat : Int))).drew).heap[g + 1]? = some (.cells Z4 26 (0, 0))) := (heap_setCell_other _ _ _ _ (by simp)).trans HY1.out
        have HZB : Hid (Below g w ((wr.setCell ⟨g, 1, none⟩ (.int .u8 ((mb a.x1 3).toNat : Int))).drew)) := below_drewN' (HBW.out.setCell (p := ⟨g, 1, none⟩) (Nat.le_refl _) _) 1
        generalize (wr.setCell ⟨g, 1, none⟩ (.int .u8 ((mb a.x1 3).toNat : Int))).drew = w2 at HZ0 HZ1 HZB ⊢
        clear HV HY0 HY1 HBW c0 c1 c2 c3 hfz HK HCE
        go_wp2
        go_roundw
        case rel => exact ⟨2, by omega, by go_num, HZ0, HZ1, HZB⟩
        case measure => simp [intOf]
      · have HK : Hid (mk b 1 = 4) := by show _ = _; omega
        have HV := Lib.hid (mb_is a.x1 4 (by omega) 15 rfl)
        have hb0 : 0 ≤ (b : Int) := by omega
        clear hmk
        go_upto_region 5 with (fail)
        go_region
        clear hv
        rw [HV.out]
        have HZ0 : Hid (((wr.setCell ⟨g, 1, none⟩ (.int .u8 ((mb a.x1 4).toNat : Int))).drew).heap[g]? = some (.cells (ipA (mixI a b 2)) 26 (0, 0))) := by
          have := heap_setCell_same _ g 1 _ _ (.int .u8 ((mb a.x1 4).toNat : Int)) HY0.out
          rw [show ipA (mixI a b 2) = #[.int .u8 ((mb a.x0 (mk b 0)).toNat : Int), .int .u8 ((mb a.x1 (mk b 1)).toNat : Int), .int .u8 ((a.x2).toNat : Int), .int .u8 ((a.x3).toNat : Int)] from rfl, HK.out]
          exact this
        have HZ1 : Hid (((wr.setCell ⟨g, 1, none⟩ (.int .u8 ((mb a.x1 4).toNat : Int))).drew).heap[g + 1]? = some (.cells Z4 26 (0, 0))) := (heap_setCell_other _ _ _ _ (by simp)).trans HY1.out
        have HZB : Hid (Below g w ((wr.setCell ⟨g, 1, none⟩ (.int .u8 ((mb a.x1 4).toNat : Int))).drew)) := below_drewN' (HBW.out.setCell (p := ⟨g, 1, none⟩) (Nat.le_refl _) _) 1
        generalize (wr.setCell ⟨g, 1, none⟩ (.int .u8 ((mb a.x1 4).toNat : Int))).drew = w2 at HZ0 HZ1 HZB ⊢
        clear HV HY0 HY1 HBW c0 c1 c2 c3 hfz HK HCE
        go_wp2
        go_roundw
        case rel => exact ⟨2, by omega, by go_num, HZ0, HZ1, HZB⟩
        case measure => simp [intOf]
      · have HK : Hid (mk b 1 = 5) := by show _ = _; omega
        have HV := Lib.hid (mb_is a.x1 5 (by omega) 7 rfl)
        have hb0 : 0 ≤ (b : Int) := by omega
        clear hmk
        go_upto_region 5 with (fail)
        go_region
        clear hv
        rw [HV.out]
        have HZ0 : Hid (((wr.setCell ⟨g, 1, none⟩ (.int .u8 ((mb a.x1 5).toNat : Int))).drew).heap[g]? = some (.cells (ipA (mixI a b 2)) 26 (0, 0))) := by
          have := heap_setCell_same _ g 1 _ _ (.int .u8 ((mb a.x1 5).toNat : Int)) HY0.out
          rw [show ipA (mixI a b 2) = #[.int .u8 ((mb a.x0 (mk b 0)).toNat : Int), .int .u8 ((mb a.x1 (mk b 1)).toNat : Int), .int .u8 ((a.x2).toNat : Int), .int .u8 ((a.x3).toNat : Int)] from rfl, HK.out]
          exact this
        have HZ1 : Hid (((wr.setCell ⟨g, 1, none⟩ (.int .u8 ((mb a.x1 5).toNat : Int))).drew).heap[g + 1]? = some (.cells Z4 26 (0, 0))) := (heap_setCell_other _ _ _ _ (by simp)).trans HY1.out
        have HZB : Hid (Below g w ((wr.setCell ⟨g, 1, none⟩ (.int .u8 ((mb a.x1 5).toNat : Int))).drew)) := below_drewN' (HBW.out.setCell (p := ⟨g, 1, none⟩) (Nat.le_refl _) _) 1
        generalize (wr.setCell ⟨g, 1, none⟩ (.int .u8 ((mb a.x1 5).toNat : Int))).drew = w2 at HZ0 HZ1 HZB ⊢
        clear HV HY0 HY1 HBW c0 c1 c2 c3 hfz HK HCE
        go_wp2
        go_roundw
        case rel => exact ⟨2, by omega, by go_num, HZ0, HZ1, HZB⟩
        case measure => simp [intOf]
      · have HK : Hid (mk b 1 = 6) := by show _ = _; omega
        have HV := Lib.hid (mb_is a.x1 6 (by omega) 3 rfl)
        have hb0 : 0 ≤ (b : Int) := by omega
        clear hmk
        go_upto_region 5 with (fail)
        go_region
        clear hv
        rw [HV.out]
        have HZ0 : Hid (((wr.setCell ⟨g, 1, none⟩ (.int .u8 ((mb a.x1 6).toNat : Int))).drew).heap[g]? = some (.cells (ipA (mixI a b 2)) 26 (0, 0))) := by
          have := heap_setCell_same _ g 1 _ _ (.int .u8 ((mb a.x1 6).toNat : Int)) HY0.out
          rw [show ipA (mixI a b 2) = #[.int .u8 ((mb a.x0 (mk b 0)).toNat : Int), .int .u8 ((mb a.x1 (mk b 1)).toNat : Int), .int .u8 ((a.x2).toNat : Int), .int .u8 ((a.x3).toNat : Int)] from rfl, HK.out]
          exact this
        have HZ1 : Hid (((wr.setCell ⟨g, 1, none⟩ (.int .u8 ((mb a.x1 6).toNat : Int))).drew).heap[g + 1]? = some (.cells Z4 26 (0, 0))) := (heap_setCell_other _ _ _ _ (by simp)).trans HY1.out
        have HZB : Hid (Below g w ((wr.setCell ⟨g, 1, none⟩ (.int .u8 ((mb a.x1 6).toNat : Int))).drew)) := below_drewN' (HBW.out.setCell (p := ⟨g, 1, none⟩) (Nat.le_refl _) _) 1
        generalize (wr.setCell ⟨g, 1, none⟩ (.int .u8 ((mb a.x1 6).toNat : Int))).drew = w2 at HZ0 HZ1 HZB ⊢
        clear HV HY0 HY1 HBW c0 c1 c2 c3 hfz HK HCE
        go_wp2
        go_roundw
        case rel => exact ⟨2, by omega, by go_num, HZ0, HZ1, HZB⟩
        case measure => simp [intOf]
      · have HK : Hid (mk b 1 = 7) := by show _ = _; omega
        have HV := Lib.hid (mb_is a.x1 7 (by omega) 1 rfl)
        have hb0 : 0 ≤ (b : Int) := by omega
        clear hmk
        go_upto_region 5 with (fail)
        go_region
        clear hv
        rw [HV.out]
        have HZ0 : Hid (((wr.setCell ⟨g, 1, none⟩ (.int .u8 ((mb a.x1 7).toNat : Int))).drew).heap[g]? = some (.cells (ipA (mixI a b 2)) 26 (0, 0))) := by
          have := heap_setCell_same _ g 1 _ _ (.int .u8 ((mb a.x1 7).toNat : Int)) HY0.out
          rw [show ipA (mixI a b 2) = #[.int .u8 ((mb a.x0 (mk b 0)).toNat : Int), .int .u8 ((mb a.x1 (mk b 1)).toNat : Int), .int .u8 ((a.x2).toNat : Int), .int .u8 ((a.x3).toNat : Int)] from rfl, HK.out]
          exact this
        have HZ1 : Hid (((wr.setCell ⟨g, 1, none⟩ (.int .u8 ((mb a.x1 7).toNat : Int))).drew).heap[g + 1]? = some (.cells Z4 26 (0, 0))) := (heap_setCell_other _ _ _ _ (by simp)).trans HY1.out
        have HZB : Hid (Below g w ((wr.setCell ⟨g, 1, none⟩ (.int .u8 ((mb a.x1 7).toNat : Int))).drew)) := below_drewN' (HBW.out.setCell (p := ⟨g, 1, none⟩) (Nat.le_refl _) _) 1
        generalize (wr.setCell ⟨g, 1, none⟩ (.int .u8 ((mb a.x1 7).toNat : Int))).drew = w2 at HZ0 HZ1 HZB ⊢
        clear HV HY0 HY1 HBW c0 c1 c2 c3 hfz HK HCE
        go_wp2
        go_roundw
        case rel => exact ⟨2, by omega, by go_num, HZ0, HZ1, HZB⟩
        case measure => simp [intOf]
      · have HK : Hid (mk b 1 = 8) := by show _ = _; omega
        have HV := Lib.hid (mb_is a.x1 8 (by omega) 0 rfl)
        have hb0 : 0 ≤ (b : Int) := by omega
        clear hmk
        go_upto_region 5 with (fail)
        go_region
        clear hv
        rw [HV.out]
        have HZ0 : Hid (((wr.setCell ⟨g, 1, none⟩ (.int .u8 ((mb a.x1 8).toNat : Int))).drew).heap[g]? = some (.cells (ipA (mixI a b 2)) 26 (0, 0))) := by
          have := heap_setCell_same _ g 1 _ _ (.int .u8 ((mb a.x1 8).toNat : Int)) HY0.out
          rw [show ipA (mixI a b 2) = #[.int .u8 ((mb a.x0 (mk b 0)).toNat : Int), .int .u8 ((mb a.x1 (mk b 1)).toNat : Int), .int .u8 ((a.x2).toNat : Int), .int .u8 ((a.x3).toNat : Int)] from rfl, HK.out]
          exact this
        have HZ1 : Hid (((wr.setCell ⟨g, 1, none⟩ (.int .u8 ((mb a.x1 8).toNat : Int))).drew).heap[g + 1]? = some (.cells Z4 26 (0, 0))) := (heap_setCell_other _ _ _ _ (by simp)).trans HY1.out
        have HZB : Hid (Below g w ((wr.setCell ⟨g, 1, none⟩ (.int .u8 ((mb a.x1 8).toNat : Int))).drew)) := below_drewN' (HBW.out.setCell (p := ⟨g, 1, none⟩) (Nat.le_refl _) _) 1
        generalize (wr.setCell ⟨g, 1, none⟩ (.int .u8 ((mb a.x1 8).toNat : Int))).drew = w2 at HZ0 HZ1 HZB ⊢
        clear HV HY0 HY1 HBW c0 c1 c2 c3 hfz HK HCE
        go_wp2
        go_roundw
        case rel => exact ⟨2, by omega, by go_num, HZ0, HZ1, HZB⟩
        case measure => simp [intOf]
      · have HK : Hid (mk b 1 = 8) := by show _ = _; omega
        have HV := Lib.hid (mb_is a.x1 8 (by omega) 0 rfl)
        have hb0 : 0 ≤ (b : Int) := by omega
        clear hmk
        go_upto_region 5 with (fail)
        go_region
        clear hv
        rw [HV.out]
        have HZ0 : Hid (((wr.setCell ⟨g, 1, none⟩ (.int .u8 ((mb a.x1 8).toNat : Int))).drew).heap[g]? = some (.cells (ipA (mixI a b 2)) 26 (0, 0))) := by
          have := heap_setCell_same _ g 1 _ _ (.int .u8 ((mb a.x1 8).toNat : Int)) HY0.out
          rw [show ipA (mixI a b 2) = #[.int .u8 ((mb a.x0 (mk b 0)).toNat : Int), .int .u8 ((mb a.x1 (mk b 1)).toNat : Int), .int .u8 ((a.x2).toNat : Int), .int .u8 ((a.x3).toNat : Int)] from rfl, HK.out]
          exact this
        have HZ1 : Hid (((wr.setCell ⟨g, 1, none⟩ (.int .u8 ((mb a.x1 8).toNat : Int))).drew).heap[g + 1]? = some (.cells Z4 26 (0, 0))) := (heap_setCell_other _ _ _ _ (by simp)).trans HY1.out
        have HZB : Hid (Below g w ((wr.setCell ⟨g, 1, none⟩ (.int .u8 ((mb a.x1 8).toNat : Int))).drew)) := below_drewN' (HBW.out.setCell (p := ⟨g, 1, none⟩) (Nat.le_refl _) _) 1
        generalize (wr.setCell ⟨g, 1, none⟩ (.int .u8 ((mb a.x1 8).toNat : Int))).drew = w2 at HZ0 HZ1 HZB ⊢
        clear HV HY0 HY1 HBW c0 c1 c2 c3 hfz HK HCE
        go_wp2
        go_roundw
        case rel => exact ⟨2, by omega, by go_num, HZ0, HZ1, HZB⟩
        case measure => simp [intOf]
    · have hmk : mk b 2 = min (b - 16) 8 := rfl
      have HCE : Hid (ipA (mixI a b 2) = #[.int .u8 ((mb a.x0 (mk b 0)).toNat : Int), .int .u8 ((mb a.x1 (mk b 1)).toNat : Int), .int .u8 ((a.x2).toNat : Int), .int .u8 ((a.x3).toNat : Int)]) := rfl
      rw [HCE.out] at HY0
      obtain ⟨c0, c1, c2, c3⟩ := four_cells HY0.out
      have hfz := frozen_of_row _ _ 2 _ _ HY0.out
      rcases (show (b : Int) - 16 < 0 ∨ (b : Int) - 16 = 0 ∨ (b : Int) - 16 = 1 ∨ (b : Int) - 16 = 2 ∨ (b : Int) - 16 = 3 ∨ (b : Int) - 16 = 4 ∨ (b : Int) - 16 = 5 ∨ (b : Int) - 16 = 6 ∨ (b : Int) - 16 = 7 ∨ (b : Int) - 16 = 8 ∨ 8 < (b : Int) - 16 by omega) with hv | hv | hv | hv | hv | hv | hv | hv | hv | hv | hv
      · have HK : Hid (mk b 2 = 0) := by show _ = _; omega
        have HV := Lib.hid (mb_is a.x2 0 (by omega) 255 rfl)
        have hb0 : 0 ≤ (b : Int) := by omega
        clear hmk
        go_upto_region 5 with (fail)
        go_region
        clear hv
        rw [HV.out]
        have HZ0 : Hid (((wr.setCell ⟨g, 2, none⟩ (.int .u8 ((mb a.x2 0).toNat : Int))).drew).heap[g]? = some (.cells (ipA (mixI a b 3)) 26 (0, 0))) := by
          have := heap_setCell_same _ g 2 _ _ (.int .u8 ((mb a.x2 0).toNat : Int)) HY0.out
          rw [show ipA (mixI a b 3) = #[.int .u8 ((mb a.x0 (mk b 0)).toNat : Int), .int .u8 ((mb a.x1 (mk b 1)).toNat : Int), .int .u8 ((mb a.x2 (mk b 2)).toNat : Int), .int .u8 ((a.x3).toNat : Int)] from rfl, HK.out]
          exact this
        have HZ1 : Hid (((wr.setCell ⟨g, 2, none⟩ (.int .u8 ((mb a.x2 0).toNat : Int))).drew).heap[g + 1]? = some (.cells Z4 26 (0, 0))) := (heap_setCell_other _ _ _ _ (by simp)).trans HY1.out
        have HZB : Hid (Below g w ((wr.setCell ⟨g, 2, none⟩ (.int .u8 ((mb a.x2 0).toNat : Int))).drew)) := below_drewN' (HBW.out.setCell (p := ⟨g, 2, none⟩) (Nat.le_refl _) _) 1
        generalize (wr.setCell ⟨g, 2, none⟩ (.int .u8 ((mb a.x2 0).toNat : Int))).drew = w2 at HZ0 HZ1 HZB ⊢
        clear HV HY0 HY1 HBW c0 c1 c2 c3 hfz HK HCE
        go_wp2
        go_roundw
        case rel => exact ⟨3, by omega, by go_num, HZ0, HZ1, HZB⟩
        case measure => simp [intOf]
      · have HK : Hid (mk b 2 = 0) := by show _ = _; omega
        have HV := Lib.hid (mb_is a.x2 0 (by omega) 255 rfl)
        have hb0 : 0 ≤ (b : Int) := by omega
        clear hmk
        go_upto_region 5 with (fail)
        go_region
        clear hv
        rw [HV.out]
        have HZ0 : Hid (((wr.setCell ⟨g, 2, none⟩ (.int .u8 ((mb a.x2 0).toNat : Int))).drew).heap[g]? = some (.cells (ipA (mixI a b 3)) 26 (0, 0))) := by
          have := heap_setCell_same _ g 2 _ _ (.int .u8 ((mb a.x2 0).toNat : Int)) HY0.out
          rw [show ipA (mixI a b 3) = #[.int .u8 ((mb a.x0 (mk b 0)).toNat : Int), .int .u8 ((mb a.x1 (mk b 1)).toNat : Int), .int .u8 ((mb a.x2 (mk b 2)).toNat : Int), .int .u8 ((a.x3).toNat : Int)] from rfl, HK.out]
          exact this
        have HZ1 : Hid (((wr.setCell ⟨g, 2, none⟩ (.int .u8 ((mb a.x2 0).toNat : Int))).drew).heap[g + 1]? = some (.cells Z4 26 (0, 0))) := (heap_setCell_other _ _ _ _ (by simp)).trans HY1.out
        have HZB : Hid (Below g w ((wr.setCell ⟨g, 2, none⟩ (.int .u8 ((mb a.x2 0).toNat : Int))).drew)) := below_drewN' (HBW.out.setCell (p := ⟨g, 2, none⟩) (Nat.le_refl _) _) 1
        generalize (wr.setCell ⟨g, 2, none⟩ (.int .u8 ((mb a.x2 0).toNat : Int))).drew = w2 at HZ0 HZ1 HZB ⊢
        clear HV HY0 HY1 HBW c0 c1 c2 c3 hfz HK HCE
        go_wp2
        go_roundw
        case rel => exact ⟨3, by omega, by go_num, HZ0, HZ1, HZB⟩
        case measure => simp [intOf]
      · have HK : Hid (mk b 2 = 1) := by show _ = _; omega
        have HV := Lib.hid (mb_is a.x2 1 (by omega) 127 rfl)
        have hb0 : 0 ≤ (b : Int) := by omega
        clear hmk
        go_upto_region 5 with (fail)
        go_region
        clear hv
        rw [HV.out]
        have HZ0 : Hid (((wr.setCell ⟨g, 2, none⟩ (.int .u8 ((mb a.x2 1).toNat : Int))).drew).heap[g]? = some (.cells (ipA (mixI a b 3)) 26 (0, 0))) := by
          have := heap_setCell_same _ g 2 _ _ (.int .u8 ((mb a.x2 1).toNat : Int)) HY0.out
          rw [show ipA (mixI a b 3) = #[.int .u8 ((mb a.x0 (mk b 0)).toNat : Int), .int .u8 ((mb a.x1 (mk b 1)).toNat : Int), .int .u8 ((mb a.x2 (mk b 2)).toNat : Int), .int .u8 ((a.x3).toNat : Int)] from rfl, HK.out]
          exact this
        have HZ1 : Hid (((wr.setCell ⟨g, 2, none⟩ (.int .u8 ((mb a.x2 1).toNat : Int))).drew).heap[g + 1]? = some (.cells Z4 26 (0, 0))) := (heap_setCell_other _ _ _ _ (by simp)).trans HY1.out
        have HZB : Hid (Below g w ((wr.setCell ⟨g, 2, none⟩ (.int .u8 ((mb a.x2 1).toNat : Int))).drew)) := below_drewN' (HBW.out.setCell (p := ⟨g, 2, none⟩) (Nat.le_refl _) _) 1
        generalize (wr.setCell ⟨g, 2, none⟩ (.int .u8 ((mb a.x2 1).toNat : Int))).drew = w2 at HZ0 HZ1 HZB ⊢
        clear HV HY0 HY1 HBW c0 c1 c2 c3 hfz HK HCE
        go_wp2
        go_roundw
        case rel => exact ⟨3, by omega, by go_num, HZ0, HZ1, HZB⟩
        case measure => simp [intOf]
      · have HK : Hid (mk b 2 = 2) := by show _ = _; omega
        have HV := Lib.hid (mb_is a.x2 2 (by omega) 63 rfl)
        have hb0 : 0 ≤ (b : Int) := by omega
        clear hmk
        go_upto_region 5 with (fail)
        go_region
        clear hv
        rw [HV.out]
        have HZ0 : Hid (((wr.setCell ⟨g, 2, none⟩ (.int .u8 ((mb a.x2 2).toNat : Int))).drew).heap[g]? = some (.cells (ipA (mixI a b 3)) 26 (0, 0))) := by
          have := heap_setCell_same _ g 2 _ _ (.int .u8 ((mb a.x2 2).toNat : Int)) HY0.out
          rw [show ipA (mixI a b 3) = #[.int .u8 ((mb a.x0 (mk b 0)).toNat : Int), .int .u8 ((mb a.x1 (mk b 1)).toNat : Int), .int .u8 ((mb a.x2 (mk b 2)).toNat : Int), .int .u8 ((a.x3).toNat : Int)] from rfl, HK.out]
          exact this
        have HZ1 : Hid (((wr.setCell ⟨g, 2, none⟩ (.int .u8 ((mb a.x2 2).toNat : Int))).drew).heap[g + 1]? = some (.cells Z4 26 (0, 0))) := (heap_setCell_other _ _ _ _ (by simp)).trans HY1.out
        have HZB : Hid (Below g w ((wr.setCell ⟨g, 2, none⟩ (.int .u8 ((mb a.x2 2).toNat : Int))).drew)) := below_drewN' (HBW.out.setCell (p := ⟨g, 2, none⟩) (Nat.le_refl _) _) 1
        generalize (wr.setCell ⟨g, 2, none⟩ (.int .u8 ((mb a.x2 2).toNat : Int))).drew = w2 at HZ0 HZ1 HZB ⊢
        clear HV HY0 HY1 HBW c0 c1 c2 c3 hfz HK HCE
        go_wp2
        go_roundw
        case rel => exact ⟨3, by omega, by go_num, HZ0, HZ1, HZB⟩
        case measure => simp [intOf]
      · have HK : Hid (mk b 2 = 3) := by show _ = _; omega
        have HV := Lib.hid (mb_is a.x2 3 (by omega) 31 rfl)
        have hb0 : 0 ≤ (b : Int) := by omega
        clear hmk
        go_upto_region 5 with (fail)
        go_region
        clear hv
        rw [HV.out]
        have HZ0 : Hid (((wr.setCell ⟨g, 2, none⟩ (.int .u8 ((mb a.x2 3).toNat : Int))).drew).heap[g]? = some (.cells (ipA (mixI a b 3)) 26 (0, 0))) := by
          have := heap_setCell_same _ g 2 _ _ (.int .u8 ((mb a.x2 3).toNat : Int)) HY0.out
          rw [show ipA (mixI a b 3) = #[.int .u8 ((mb a.x0 (mk b 0)).toNat : Int), .int .u8 ((mb a.x1 (mk b 1)).toNat : Int), .int .u8 ((mb a.x2 (mk b 2)).toNat : Int), .int .u8 ((a.x3).toNat : Int)] from rfl, HK.out]
          exact this
        have HZ1 : Hid (((wr.setCell ⟨g, 2, none⟩ (.int .u8 ((mb a.x2 3).toNat : Int))).drew).heap[g + 1]? = some (.cells Z4 26 (0, 0))) := (heap_setCell_other _ _ _ _ (by simp)).trans HY1.out
        have HZB : Hid (Below g w ((wr.setCell ⟨g, 2, none⟩ (.int .u8 ((mb a.x2 3).toNat : Int))).drew)) := below_drewN' (HBW.out.setCell (p := ⟨g, 2, none⟩) (Nat.le_refl _) _) 1
        generalize (wr.setCell ⟨g, 2, none⟩ (.int .u8 ((mb a.x2 3).toNat : Int))).drew = w2 at HZ0 HZ1 HZB ⊢
        clear HV HY0 HY1 HBW c0 c1 c2 c3 hfz HK HCE
        go_wp2
        go_roundw
        case rel => exact ⟨3, by omega, by go_num, HZ0, HZ1, HZB⟩
        case measure => simp [intOf]
      · have HK : Hid (mk b 2 = 4) := by show _ = _; omega
        have HV := Lib.hid (mb_is a.x2 4 (by omega) 15 rfl)
        have hb0 : 0 ≤ (b : Int) := by omega
        clear hmk
        go_upto_region 5 with (fail)
        go_region
        clear hv
        rw [HV.out]
        have HZ0 : Hid (((wr.setCell ⟨g, 2, none⟩ (.int .u8 ((mb a.x2 4).toNat : Int))).drew).heap[g]? = some (.cells (ipA (mixI a b 3)) 26 (0, 0))) := by
          have := heap_setCell_same _ g 2 _ _ (.int .u8 ((mb a.x2 4).toNat : Int)) HY0.out
          rw [show ipA (mixI a b 3) = #[.int .u8 ((mb a.x0 (mk b 0)).toNat : Int), .int .u8 ((mb a.x1 (mk b 1)).toNat : Int), .int .u8 ((mb a.x2 (mk b 2)).toNat : Int), .int .u8 ((a.x3).toNat : Int)] from rfl, HK.out]
          exact this
        have HZ1 : Hid (((wr.setCell ⟨g, 2, none⟩ (.int .u8 ((mb a.x2 4).toNat : Int))).drew).heap[g + 1]? = some (.cells Z4 26 (0, 0))) := (heap_setCell_other _ _ _ _ (by simp)).trans HY1.out
        have HZB : Hid (Below g w ((wr.setCell ⟨g, 2, none⟩ (.int .u8 ((mb a.x2 4).toNat : Int))).drew)) := below_drewN' (HBW.out.setCell (p := ⟨g, 2, none⟩) (Nat.le_refl _) _) 1
        generalize (wr.setCell ⟨g, 2, none⟩ (.int .u8 ((mb a.x2 4).toNat : Int))).drew = w2 at HZ0 HZ1 HZB ⊢
        clear HV HY0 HY1 HBW c0 c1 c2 c3 hfz HK HCE
        go_wp2
        go_roundw
        case rel => exact ⟨3, by omega, by go_num, HZ0, HZ1, HZB⟩
        case measure => simp [intOf]
      · have HK : Hid (mk b 2 = 5) := by show _ = _; omega
        have HV := Lib.hid (mb_is a.x2 5 (by omega) 7 rfl)
        have hb0 : 0 ≤ (b : Int) := by omega
        clear hmk
        go_upto_region 5 with (fail)
        go_region
        clear hv
        rw [HV.out]
        have HZ0 : Hid (((wr.setCell ⟨g, 2, none⟩ (.int .u8 ((mb a.x2 5).toNat : Int))).drew).heap[g]? = some (.cells (ipA (mixI a b 3)) 26 (0, 0))) := by
          have := heap_setCell_same _ g 2 _ _ (.int .u8 ((mb a.x2 5).toNat : Int)) HY0.out
          rw [show ipA (mixI a b 3) = #[.int .u8 ((mb a.x0 (mk b 0)).toNat : Int), .int .u8 ((mb a.x1 (mk b 1)).toNat : Int), .int .u8 ((mb a.x2 (mk b 2)).toNat : Int), .int .u8 ((a.x3).toNat : Int)] from rfl, HK.out]
          exact this
        have HZ1 : Hid (((wr.setCell ⟨g, 2, none⟩ (.int .u8 ((mb a.x2 5).toNat : Int))).drew).heap[g + 1]? = some (.cells Z4 26 (0, 0))) := (heap_setCell_other _ _ _ _ (by simp)).trans HY1.out
        have HZB : Hid (Below g w ((wr.setCell ⟨g, 2, none⟩ (.int .u8 ((mb a.x2 5).toNat : Int))).drew)) := below_drewN' (HBW.out.setCell (p := ⟨g, 2, none⟩) (Nat.le_refl _) _) 1
        generalize (wr.setCell ⟨g, 2, none⟩ (.int .u8 ((mb a.x2 5).toNat : Int))).drew = w2 at HZ0 HZ1 HZB ⊢
        clear HV HY0 HY1 HBW c0 c1 c2 c3 hfz HK HCE
        go_wp2
        go_roundw
        case rel => exact ⟨3, by omega, by go_num, HZ0, HZ1, HZB⟩
        case measure => simp [intOf]
      · have HK : Hid (mk b 2 = 6) := by show _ = _; omega
        have HV := Lib.hid (mb_is a.x2 6 (by omega) 3 rfl)
        have hb0 : 0 ≤ (b : Int) := by omega
        clear hmk
        go_upto_region 5 with (fail)
        go_region
        clear hv
        rw [HV.out]
        have HZ0 : Hid (((wr.setCell ⟨g, 2, none⟩ (.int .u8 ((mb a.x2 6).toNat : Int))).drew).heap[g]? = some (.cells (ipA (mixI a b 3)) 26 (0, 0))) := by
          have := heap_setCell_same _ g 2 _ _ (.int .u8 ((mb a.x2 6).toNat : Int)) HY0.out
          rw [show ipA (mixI a b 3) = #[.int .u8 ((mb a.x0 (mk b 0)).toNat : Int), .int .u8 ((mb a.x1 (mk b 1)).toNat : Int), .int .u8 ((mb a.x2 (mk b 2)).toNat : Int), .int .u8 ((a.x3).toNat : Int)] from rfl, HK.out]
          exact this
        have HZ1 : Hid (((wr.setCell ⟨g, 2, none⟩ (.int .u8 ((mb a.x2 6).toNat : Int))).drew).heap[g + 1]? = some (.cells Z4 26 (0, 0))) := (heap_setCell_other _ _ _ _ (by simp)).trans HY1.out
        have HZB : Hid (Below g w ((wr.setCell ⟨g, 2, none⟩ (.int .u8 ((mb a.x2 6).toNat : Int))).drew)) := below_drewN' (HBW.out.setCell (p := ⟨g, 2, none⟩) (Nat.le_refl _) _) 1
        generalize (wr.setCell ⟨g, 2, none⟩ (.int .u8 ((mb a.x2 6).toNat : Int))).drew = w2 at HZ0 HZ1 HZB ⊢
        clear HV HY0 HY1 HBW c0 c1 c2 c3 hfz HK HCE
        go_wp2
        go_roundw
        case rel => exact ⟨3, by omega, by go_num, HZ0, HZ1, HZB⟩
        case measure => simp [intOf]
      · have HK : Hid (mk b 2 = 7) := by show _ = _; omega
        have HV := Lib.hid (mb_is a.x2 7 (by omega) 1 rfl)
        have hb0 : 0 ≤ (b : Int) := by omega
        clear hmk
        go_upto_region 5 with (fail)
        go_region
        clear hv
        rw [HV.out]
        have HZ0 : Hid (((wr.setCell ⟨g, 2, none⟩ (.int .u8 ((mb a.x2 7).toNat : Int))).drew).heap[g]? = some (.cells (ipA (mixI a b 3)) 26 (0, 0))) := by
          have := heap_setCell_same _ g 2 _ _ (.int .u8 ((mb a.x2 7).toNat : Int)) HY0.out
          rw [show ipA (mixI a b 3) = #[.int .u8 ((mb a.x0 (mk b 0)).toNat : Int), .int .u8 ((mb a.x1 (mk b 1)).toNat : Int), .int .u8 ((mb a.x2 (mk b 2)).toNat : Int), .int .u8 ((a.x3).toNat : Int)] from rfl, HK.out]
          exact this
        have HZ1 : Hid (((wr.setCell ⟨g, 2, none⟩ (.int .u8 ((mb a.x2 7).toNat : Int))).drew).heap[g + 1]? = some (.cells Z4 26 (0, 0))) := (heap_setCell_other _ _ _ _ (by simp)).trans HY1.out
        have HZB : Hid (Below g w ((wr.setCell ⟨g, 2, none⟩ (.int .u8 ((mb a.x2 7).toNat : Int))).drew)) := below_drewN' (HBW.out.setCell (p := ⟨g, 2, none⟩) (Nat.le_refl _) _) 1
        generalize (wr.setCell ⟨g, 2, none⟩ (.int .u8 ((mb a.x2 7).toNat : Int))).drew = w2 at HZ0 HZ1 HZB ⊢
        clear HV HY0 HY1 HBW c0 c1 c2 c3 hfz HK HCE
        go_wp2
        go_roundw
        case rel => exact ⟨3, by omega, by go_num, HZ0, HZ1, HZB⟩
        case measure => simp [intOf]
      · have HK : Hid (mk b 2 = 8) := by show _ = _; omega
        have HV := Lib.hid (mb_is a.x2 8 (by omega) 0 rfl)
        have hb0 : 0 ≤ (b : Int) := by omega
        clear hmk
        go_upto_region 5 with (fail)
        go_region
        clear hv
        rw [HV.out]
        have HZ0 : Hid (((wr.setCell ⟨g, 2, none⟩ (.int .u8 ((mb a.x2 8).toNat : Int))).drew).heap[g]? = some (.cells (ipA (mixI a b 3)) 26 (0, 0))) := by
          have := heap_setCell_same _ g 2 _ _ (.int .u8 ((mb a.x2 8).toNat : Int)) HY0.out
          rw [show ipA (mixI a b 3) = #[.int .u8 ((mb a.x0 (mk b 0)).toNat : Int), .int .u8 ((mb a.x1 (mk b 1)).toNat : Int), .int .u8 ((mb a.x2 (mk b 2)).toNat : Int), .int .u8 ((a.x3).toNat : Int)] from rfl, HK.out]
          exact this
        have HZ1 : Hid (((wr.setCell ⟨g, 2, none⟩ (.int .u8 ((mb a.x2 8).toNat : Int))).drew).heap[g + 1]? = some (.cells Z4 26 (0, 0))) := (heap_setCell_other _ _ _ _ (by simp)).trans HY1.out
        have HZB : Hid (Below g w ((wr.setCell ⟨g, 2, none⟩ (.int .u8 ((mb a.x2 8).toNat : Int))).drew)) := below_drewN' (HBW.out.setCell (p := ⟨g, 2, none⟩) (Nat.le_refl _) _) 1
        generalize (wr.setCell ⟨g, 2, none⟩ (.int .u8 ((mb a.x2 8).toNat : Int))).drew = w2 at HZ0 HZ1 HZB ⊢
        clear HV HY0 HY1 HBW c0 c1 c2 c3 hfz HK HCE
        go_wp2
        go_roundw
        case rel => exact ⟨3, by omega, by go_num, HZ0, HZ1, HZB⟩
        case measure => simp [intOf]
      · have HK : Hid (mk b 2 = 8) := by show _ = _; omega
        have HV := Lib.hid (mb_is a.x2 8 (by omega) 0 rfl)
        have hb0 : 0 ≤ (b : Int) := by omega
        clear hmk
        go_upto_region 5 with (fail)
        go_region
        clear hv
        rw [HV.out]
        have HZ0 : Hid (((wr.setCell ⟨g, 2, none⟩ (.int .u8 ((mb a.x2 8).toNat : Int))).drew).heap[g]? = some (.cells (ipA (mixI a b 3)) 26 (0, 0))) := by
          have := heap_setCell_same _ g 2 _ _ (.int .u8 ((mb a.x2 8).toNat : Int)) HY0.out
          rw [show ipA (mixI a b 3) = #[.int .u8 ((mb a.x0 (mk b 0)).toNat : Int), .int .u8 ((mb a.x1 (mk b 1)).toNat : Int), .int .u8 ((mb a.x2 (mk b 2)).toNat : Int), .int .u8 ((a.x3).toNat : Int)] from rfl, HK.out]
          exact this
        have HZ1 : Hid (((wr.setCell ⟨g, 2, none⟩ (.int .u8 ((mb a.x2 8).toNat : Int))).drew).heap[g + 1]? = some (.cells Z4 26 (0, 0))) := (heap_setCell_other _ _ _ _ (by simp)).trans HY1.out
        have HZB : Hid (Below g w ((wr.setCell ⟨g, 2, none⟩ (.int .u8 ((mb a.x2 8).toNat : Int))).drew)) := below_drewN' (HBW.out.setCell (p := ⟨g, 2, none⟩) (Nat.le_refl _) _) 1
        generalize (wr.setCell ⟨g, 2, none⟩ (.int .u8 ((mb a.x2 8).toNat : Int))).drew = w2 at HZ0 HZ1 HZB ⊢
        clear HV HY0 HY1 HBW c0 c1 c2 c3 hfz HK HCE
        go_wp2
        go_roundw
        case rel => exact ⟨3, by omega, by go_num, HZ0, HZ1, HZB⟩
        case measure => simp [intOf]
    · have hmk : mk b 3 = min (b - 24) 8 := rfl
      have HCE : Hid (ipA (mixI a b 3) = #[.int .u8 ((mb a.x0 (mk b 0)).toNat : Int), .int .u8 ((mb a.x1 (mk b 1)).toNat : Int), .int .u8 ((mb a.x2 (mk b 2)).toNat : Int), .int .u8 ((a.x3).toNat : Int)]) := rfl
      rw [HCE.out] at HY0
      obtain ⟨c0, c1, c2, c3⟩ := four_cells HY0.out
      have hfz := frozen_of_row _ _ 3 _ _ HY0.out
      rcases (show (b : Int) - 24 < 0 ∨ (b : Int) - 24 = 0 ∨ (b : Int) - 24 = 1 ∨ (b : Int) - 24 = 2 ∨ (b : Int) - 24 = 3 ∨ (b : Int) - 24 = 4 ∨ (b : Int) - 24 = 5 ∨ (b : Int) - 24 = 6 ∨ (b : Int) - 24 = 7 ∨ (b : Int) - 24 = 8 by omega) with hv | hv | hv | hv | hv | hv | hv | hv | hv | hv
      · have HK : Hid (mk b 3 = 0) := by show _ = _; omega
        have HV := Lib.hid (mb_is a.x3 0 (by omega) 255 rfl)
        have hb0 : 0 ≤ (b : Int) := by omega
        clear hmk
        go_upto_region 5 with (fail)
        go_region
        clear hv
        rw [HV.out]
        have HZ0 : Hid (((wr.setCell ⟨g, 3, none⟩ (.int .u8 ((mb a.x3 0).toNat : Int))).drew).heap[g]? = some (.cells (ipA (mixI a b 4)) 26 (0, 0))) := by
          have := heap_setCell_same _ g 3 _ _ (.int .u8 ((mb a.x3 0).toNat : Int)) HY0.out
          rw [show ipA (mixI a b 4) = #[.int .u8 ((mb a.x0 (mk b 0)).toNat : Int), .int .u8 ((mb a.x1 (mk b 1)).toNat : Int), .int .u8 ((mb a.x2 (mk b 2)).toNat : Int), .int .u8 ((mb a.x3 (mk b 3)).toNat : Int)] from rfl, HK.out]
          exact this
        have HZ1 : Hid (((wr.setCell ⟨g, 3, none⟩ (.int .u8 ((mb a.x3 0).toNat : Int))).drew).heap[g + 1]? = some (.cells Z4 26 (0, 0))) := (heap_setCell_other _ _ _ _ (by simp)).trans HY1.out
        have HZB : Hid (Below g w ((wr.setCell ⟨g, 3, none⟩ (.int .u8 ((mb a.x3 0).toNat : Int))).drew)) := below_drewN' (HBW.out.setCell (p := ⟨g, 3, none⟩) (Nat.le_refl _) _) 1
        generalize (wr.setCell ⟨g, 3, none⟩ (.int .u8 ((mb a.x3 0).toNat : Int))).drew = w2 at HZ0 HZ1 HZB ⊢
        clear HV HY0 HY1 HBW c0 c1 c2 c3 hfz HK HCE
        go_wp2
        go_roundw
        case rel => exact ⟨4, by omega, by go_num, HZ0, HZ1, HZB⟩
        case measure => simp [intOf]
      · have HK : Hid (mk b 3 = 0) := by show _ = _; omega
        have HV := Lib.hid (mb_is a.x3 0 (by omega) 255 rfl)
        have hb0 : 0 ≤ (b : Int) := by omega
        clear hmk
        go_upto_region 5 with (fail)
        go_region
        clear hv
        rw [HV.out]
        have HZ0 : Hid (((wr.setCell ⟨g, 3, none⟩ (.int .u8 ((mb a.x3 0).toNat : Int))).drew).heap[g]? = some (.cells (ipA (mixI a b 4)) 26 (0, 0))) := by
          have := heap_setCell_same _ g 3 _ _ (.int .u8 ((mb a.x3 0).toNat : Int)) HY0.out
          rw [show ipA (mixI a b 4) = #[.int .u8 ((mb a.x0 (mk b 0)).toNat : Int), .int .u8 ((mb a.x1 (mk b 1)).toNat : Int), .int .u8 ((mb a.x2 (mk b 2)).toNat : Int), .int .u8 ((mb a.x3 (mk b 3)).toNat : Int)] from rfl, HK.out]
          exact this
        have HZ1 : Hid (((wr.setCell ⟨g, 3, none⟩ (.int .u8 ((mb a.x3 0).toNat : Int))).drew).heap[g + 1]? = some (.cells Z4 26 (0, 0))) := (heap_setCell_other _ _ _ _ (by simp)).trans HY1.out
        have HZB : Hid (Below g w ((wr.setCell ⟨g, 3, none⟩ (.int .u8 ((mb a.x3 0).toNat : Int))).drew)) := below_drewN' (HBW.out.setCell (p := ⟨g, 3, none⟩) (Nat.le_refl _) _) 1
        generalize (wr.setCell ⟨g, 3, none⟩ (.int .u8 ((mb a.x3 0).toNat : Int))).drew = w2 at HZ0 HZ1 HZB ⊢
        clear HV HY0 HY1 HBW c0 c1 c2 c3 hfz HK HCE
        go_wp2
        go_roundw
        case rel => exact ⟨4, by omega, by go_num, HZ0, HZ1, HZB⟩
        case measure => simp [intOf]
      · have HK : Hid (mk b 3 = 1) := by show _ = _; omega
        have HV := Lib.hid (mb_is a.x3 1 (by omega) 127 rfl)
        have hb0 : 0 ≤ (b : Int) := by omega
        clear hmk
        go_upto_region 5 with (fail)
        go_region
        clear hv
        rw [HV.out]
        have HZ0 : Hid (((wr.setCell ⟨g, 3, none⟩ (.int .u8 ((mb a.x3 1).toNat : Int))).drew).heap[g]? = some (.cells (ipA (mixI a b 4)) 26 (0, 0))) := by
          have := heap_setCell_same _ g 3 _ _ (.int .u8 ((mb a.x3 1).toNat : Int)) HY0.out
          rw [show ipA (mixI a b 4) = #[.int .u8 ((mb a.x0 (mk b 0)).toNat : Int), .int .u8 ((mb a.x1 (mk b 1)).toNat : Int), .int .u8 ((mb a.x2 (mk b 2)).toNat : Int), .int .u8 ((mb a.x3 (mk b 3)).toNat : Int)] from rfl, HK.out]
          exact this
        have HZ1 : Hid (((wr.setCell ⟨g, 3, none⟩ (.int .u8 ((mb a.x3 1).toNat : Int))).drew).heap[g + 1]? = some (.cells Z4 26 (0, 0))) := (heap_setCell_other _ _ _ _ (by simp)).trans HY1.out
        have HZB : Hid (Below g w ((wr.setCell ⟨g, 3, none⟩ (.int .u8 ((mb a.x3 1).toNat : Int))).drew)) := below_drewN' (HBW.out.setCell (p := ⟨g, 3, none⟩) (Nat.le_refl _) _) 1
        generalize (wr.setCell ⟨g, 3, none⟩ (.int .u8 ((mb a.x3 1).toNat : Int))).drew = w2 at HZ0 HZ1 HZB ⊢
        clear HV HY0 HY1 HBW c0 c1 c2 c3 hfz HK HCE
        go_wp2
        go_roundw
        case rel => exact ⟨4, by omega, by go_num, HZ0, HZ1, HZB⟩
        case measure => simp [intOf]
      · have HK : Hid (mk b 3 = 2) := by show _ = _; omega
        have HV := Lib.hid (mb_is a.x3 2 (by omega) 63 rfl)
        have hb0 : 0 ≤ (b : Int) := by omega
        clear hmk
        go_upto_region 5 with (fail)
        go_region
        clear hv
        rw [HV.out]
        have HZ0 : Hid (((wr.setCell ⟨g, 3, none⟩ (.int .u8 ((mb a.x3 2).toNat : Int))).drew).heap[g]? = some (.cells (ipA (mixI a b 4)) 26 (0, 0))) := by
          have := heap_setCell_same _ g 3 _ _ (.int .u8 ((mb a.x3 2).toNat : Int)) HY0.out
          rw [show ipA (mixI a b 4) = #[.int .u8 ((mb a.x0 (mk b 0)).toNat : Int), .int .u8 ((mb a.x1 (mk b 1)).toNat : Int), .int .u8 ((mb a.x2 (mk b 2)).toNat : Int), .int .u8 ((mb a.x3 (mk b 3)).toNat : Int)] from rfl, HK.out]
          exact this
        have HZ1 : Hid (((wr.setCell ⟨g, 3, none⟩ (.int .u8 ((mb a.x3 2).toNat : Int))).drew).heap[g + 1]? = some (.cells Z4 26 (0, 0))) := (heap_setCell_other _ _ _ _ (by simp)).trans HY1.out
        have HZB : Hid (Below g w ((wr.setCell ⟨g, 3, none⟩ (.int .u8 ((mb a.x3 2).toNat : Int))).drew)) := below_drewN' (HBW.out.setCell (p := ⟨g, 3, none⟩) (Nat.le_refl _) _) 1
        generalize (wr.setCell ⟨g, 3, none⟩ (.int .u8 ((mb a.x3 2).toNat : Int))).drew = w2 at HZ0 HZ1 HZB ⊢
        clear HV HY0 HY1 HBW c0 c1 c2 c3 hfz HK HCE
        go_wp2
        go_roundw
        case rel => exact ⟨4, by omega, by go_num, HZ0, HZ1, HZB⟩
        case measure => simp [intOf]
      · have HK : Hid (mk b 3 = 3) := by show _ = _; omega
        have HV := Lib.hid (mb_is a.x3 3 (by omega) 31 rfl)
        have hb0 : 0 ≤ (b : Int) := by omega
        clear hmk
        go_upto_region 5 with (fail)
        go_region
        clear hv
        rw [HV.out]
        have HZ0 : Hid (((wr.setCell ⟨g, 3, none⟩ (.int .u8 ((mb a.x3 3).toNat : Int))).drew).heap[g]? = some (.cells (ipA (mixI a b 4)) 26 (0, 0))) := by
          have := heap_setCell_same _ g 3 _ _ (.int .u8 ((mb a.x3 3).toNat : Int)) HY0.out
          rw [show ipA (mixI a b 4) = #[.int .u8 ((mb a.x0 (mk b 0)).toNat : Int), .int .u8 ((mb a.x1 (mk b 1)).toNat : Int), .int .u8 ((mb a.x2 (mk b 2)).toNat : Int), .int .u8 ((mb a.x3 (mk b 3)).toNat : Int)] from rfl, HK.out]
          exact this
        have HZ1 : Hid (((wr.setCell ⟨g, 3, none⟩ (.int .u8 ((mb a.x3 3).toNat : Int))).drew).heap[g + 1]? = some (.cells Z4 26 (0, 0))) := (heap_setCell_other _ _ _ _ (by simp)).trans HY1.out
        have HZB : Hid (Below g w ((wr.setCell ⟨g, 3, none⟩ (.int .u8 ((mb a.x3 3).toNat : Int))).drew)) := below_drewN' (HBW.out.setCell (p := ⟨g, 3, none⟩) (Nat.le_refl _) _) 1
        generalize (wr.setCell ⟨g, 3, none⟩ (.int .u8 ((mb a.x3 3).toNat : Int))).drew = w2 at HZ0 HZ1 HZB ⊢
        clear HV HY0 HY1 HBW c0 c1 c2 c3 hfz HK HCE
        go_wp2
        go_roundw
        case rel => exact ⟨4, by omega, by go_num, HZ0, HZ1, HZB⟩
        case measure => simp [intOf]
      · have HK : Hid (mk b 3 = 4) := by show _ = _; omega
        have HV := Lib.hid (mb_is a.x3 4 (by omega) 15 rfl)
        have hb0 : 0 ≤ (b : Int) := by omega
        clear hmk
        go_upto_region 5 with (fail)
        go_region
        clear hv
        rw [HV.out]
        have HZ0 : Hid (((wr.setCell ⟨g, 3, none⟩ (.int .u8 ((mb a.x3 4).toNat : Int))).drew).heap[g]? = some (.cells (ipA (mixI a b 4)) 26 (0, 0))) := by
          have := heap_setCell_same _ g 3 _ _ (.int .u8 ((mb a.x3 4).toNat : Int)) HY0.out
          rw [show ipA (mixI a b 4) = #[.int .u8 ((mb a.x0 (mk b 0)).toNat : Int), .int .u8 ((mb a.x1 (mk b 1)).toNat : Int), .int .u8 ((mb a.x2 (mk b 2)).toNat : Int), .int .u8 ((mb a.x3 (mk b 3)).toNat : Int)] from rfl, HK.out]
          exact this
        have HZ1 : Hid (((wr.setCell ⟨g, 3, none⟩ (.int .u8 ((mb a.x3 4).toNat : Int))).drew).heap[g + 1]? = some (.cells Z4 26 (0, 0))) := (heap_setCell_other _ _ _ _ (by simp)).trans HY1.out
        have HZB : Hid (Below g w ((wr.setCell ⟨g, 3, none⟩ (.int .u8 ((mb a.x3 4).toNat : Int))).drew)) := below_drewN' (HBW.out.setCell (p := ⟨g, 3, none⟩) (Nat.le_refl _) _) 1
        generalize (wr.setCell ⟨g, 3, none⟩ (.int .u8 ((mb a.x3 4).toNat : Int))).drew = w2 at HZ0 HZ1 HZB ⊢
        clear HV HY0 HY1 HBW c0 c1 c2 c3 hfz HK HCE
        go_wp2
        go_roundw
        case rel => exact ⟨4, by omega, by go_num, HZ0, HZ1, HZB⟩
        case measure => simp [intOf]
      · have HK : Hid (mk b 3 = 5) := by show _ = _; omega
        have HV := Lib.hid (mb_is a.x3 5 (by omega) 7 rfl)
        have hb0 : 0 ≤ (b : Int) := by omega
        clear hmk
        go_upto_region 5 with (fail)
        go_region
        clear hv
        rw [HV.out]
        have HZ0 : Hid (((wr.setCell ⟨g, 3, none⟩ (.int .u8 ((mb a.x3 5).toNat : Int))).drew).heap[g]? = some (.cells (ipA (mixI a b 4)) 26 (0, 0))) := by
          have := heap_setCell_same _ g 3 _ _ (.int .u8 ((mb a.x3 5).toNat : Int)) HY0.out
          rw [show ipA (mixI a b 4) = #[.int .u8 ((mb a.x0 (mk b 0)).toNat : Int), .int .u8 ((mb a.x1 (mk b 1)).toNat : Int), .int .u8 ((mb a.x2 (mk b 2)).toNat : Int), .int .u8 ((mb a.x3 (mk b 3)).toNat : Int)] from rfl, HK.out]
          exact this
        have HZ1 : Hid (((wr.setCell ⟨g, 3, none⟩ (.int .u8 ((mb a.x3 5).toNat : Int))).drew).heap[g + 1]? = some (.cells Z4 26 (0, 0))) := (heap_setCell_other _ _ _ _ (by simp)).trans HY1.out
        have HZB : Hid (Below g w ((wr.setCell ⟨g, 3, none⟩ (.int .u8 ((mb a.x3 5).toNat : Int))).drew)) := below_drewN' (HBW.out.setCell (p := ⟨g, 3, none⟩) (Nat.le_refl _) _) 1
        generalize (wr.setCell ⟨g, 3, none⟩ (.int .u8 ((mb a.x3 5).toNat : Int))).drew = w2 at HZ0 HZ1 HZB ⊢
        clear HV HY0 HY1 HBW c0 c1 c2 c3 hfz HK HCE
        go_wp2
        go_roundw
        case rel => exact ⟨4, by omega, by go_num, HZ0, HZ1, HZB⟩
        case measure => simp [intOf]
      · have HK : Hid (mk b 3 = 6) := by show _ = _; omega
        have HV := Lib.hid (mb_is a.x3 6 (by omega) 3 rfl)
        have hb0 : 0 ≤ (b : Int) := by omega
        clear hmk
        go_upto_region 5 with (fail)
        go_region
        clear hv
        rw [HV.out]
        have HZ0 : Hid (((wr.setCell ⟨g, 3, none⟩ (.int .u8 ((mb a.x3 6).toNat : Int))).drew).heap[g]? = some (.cells (ipA (mixI a b 4)) 26 (0, 0))) := by
          have := heap_setCell_same _ g 3 _ _ (.int .u8 ((mb a.x3 6).toNat : Int)) HY0.out
          rw [show ipA (mixI a b 4) = #[.int .u8 ((mb a.x0 (mk b 0)).toNat : Int), .int .u8 ((mb a.x1 (mk b 1)).toNat : Int), .int .u8 ((mb a.x2 (mk b 2)).toNat : Int), .int .u8 ((mb a.x3 (mk b 3)).toNat : Int)] from rfl, HK.out]
          exact this
        have HZ1 : Hid (((wr.setCell ⟨g, 3, none⟩ (.int .u8 ((mb a.x3 6).toNat : Int))).drew).heap[g + 1]? = some (.cells Z4 26 (0, 0))) := (heap_setCell_other _ _ _ _ (by simp)).trans HY1.out
        have HZB : Hid (Below g w ((wr.setCell ⟨g, 3, none⟩ (.int .u8 ((mb a.x3 6).toNat : Int))).drew)) := below_drewN' (HBW.out.setCell (p := ⟨g, 3, none⟩) (Nat.le_refl _) _) 1
        generalize (wr.setCell ⟨g, 3, none⟩ (.int .u8 ((mb a.x3 6).toNat : Int))).drew = w2 at HZ0 HZ1 HZB ⊢
        clear HV HY0 HY1 HBW c0 c1 c2 c3 hfz HK HCE
        go_wp2
        go_roundw
        case rel => exact ⟨4, by omega, by go_num, HZ0, HZ1, HZB⟩
        case measure => simp [intOf]
      · have HK : Hid (mk b 3 = 7) := by show _ = _; omega
        have HV := Lib.hid (mb_is a.x3 7 (by omega) 1 rfl)
        have hb0 : 0 ≤ (b : Int) := by omega
        clear hmk
        go_upto_region 5 with (fail)
        go_region
        clear hv
        rw [HV.out]
        have HZ0 : Hid (((wr.setCell ⟨g, 3, none⟩ (.int .u8 ((mb a.x3 7).toNat : Int))).drew).heap[g]? = some (.cells (ipA (mixI a b 4)) 26 (0, 0))) := by
          have := heap_setCell_same _ g 3 _ _ (.int .u8 ((mb a.x3 7).toNat : Int)) HY0.out
          rw [show ipA (mixI a b 4) = #[.int .u8 ((mb a.x0 (mk b 0)).toNat : Int), .int .u8 ((mb a.x1 (mk b 1)).toNat : Int), .int .u8 ((mb a.x2 (mk b 2)).toNat : Int), .int .u8 ((mb a.x3 (mk b 3)).toNat : Int)] from rfl, HK.out]
          exact this
        have HZ1 : Hid (((wr.setCell ⟨g, 3, none⟩ (.int .u8 ((mb a.x3 7).toNat : Int))).drew).heap[g + 1]? = some (.cells Z4 26 (0, 0))) := (heap_setCell_other _ _ _ _ (by simp)).trans HY1.out
        have HZB : Hid (Below g w ((wr.setCell ⟨g, 3, none⟩ (.int .u8 ((mb a.x3 7).toNat : Int))).drew)) := below_drewN' (HBW.out.setCell (p := ⟨g, 3, none⟩) (Nat.le_refl _) _) 1
        generalize (wr.setCell ⟨g, 3, none⟩ (.int .u8 ((mb a.x3 7).toNat : Int))).drew = w2 at HZ0 HZ1 HZB ⊢
        clear HV HY0 HY1 HBW c0 c1 c2 c3 hfz HK HCE
        go_wp2
        go_roundw
        case rel => exact ⟨4, by omega, by go_num, HZ0, HZ1, HZB⟩
        case measure => simp [intOf]
      · have HK : Hid (mk b 3 = 8) := by show _ = _; omega
        have HV := Lib.hid (mb_is a.x3 8 (by omega) 0 rfl)
        have hb0 : 0 ≤ (b : Int) := by omega
        clear hmk
        go_upto_region 5 with (fail)
        go_region
        clear hv
        rw [HV.out]
        have HZ0 : Hid (((wr.setCell ⟨g, 3, none⟩ (.int .u8 ((mb a.x3 8).toNat : Int))).drew).heap[g]? = some (.cells (ipA (mixI a b 4)) 26 (0, 0))) := by
          have := heap_setCell_same _ g 3 _ _ (.int .u8 ((mb a.x3 8).toNat : Int)) HY0.out
          rw [show ipA (mixI a b 4) = #[.int .u8 ((mb a.x0 (mk b 0)).toNat : Int), .int .u8 ((mb a.x1 (mk b 1)).toNat : Int), .int .u8 ((mb a.x2 (mk b 2)).toNat : Int), .int .u8 ((mb a.x3 (mk b 3)).toNat : Int)] from rfl, HK.out]
          exact this
        have HZ1 : Hid (((wr.setCell ⟨g, 3, none⟩ (.int .u8 ((mb a.x3 8).toNat : Int))).drew).heap[g + 1]? = some (.cells Z4 26 (0, 0))) := (heap_setCell_other _ _ _ _ (by simp)).trans HY1.out
        have HZB : Hid (Below g w ((wr.setCell ⟨g, 3, none⟩ (.int .u8 ((mb a.x3 8).toNat : Int))).drew)) := below_drewN' (HBW.out.setCell (p := ⟨g, 3, none⟩) (Nat.le_refl _) _) 1
        generalize (wr.setCell ⟨g, 3, none⟩ (.int .u8 ((mb a.x3 8).toNat : Int))).drew = w2 at HZ0 HZ1 HZB ⊢
        clear HV HY0 HY1 HBW c0 c1 c2 c3 hfz HK HCE
        go_wp2
        go_roundw
        case rel => exact ⟨4, by omega, by go_num, HZ0, HZ1, HZB⟩
        case measure => simp [intOf]
    · clear hk
      go_upto_region 7 with (fail)
      go_wp2_with (first | refine wpList_load_row rfl 26 _ rfl g rfl 26 (ipA (mixI a b 4)) (0, 0) _ HY0.out Try.underlying26 rfl (by kernel_rfl) ?_ | refine wpList_store_row rfl 26 _ _ rfl (g + 1) (ipA (mixI a b 4)) rfl rfl 26 Z4 HY1.out (by kernel_rfl) rfl (ipE.one _) ?_)
      refine ret_one (g := g + 1) rfl rfl (setRow_heap _ _ _ _ _ _ HY1.out) Try.underlying26 rfl (by kernel_rfl) rfl ?_
      refine ⟨?_, below_setRow HBW.out (by omega) _⟩
      rw [← HM.out]
      rfl
end Go.Proofs.Ytfifigokglmjlaa
