/-
  segment.flag, Flags, ReadFlags, and the document's Flags, ReadFlags: their answers, for every byte and every text. No condition.
-/
import Derived.Test.YtjgdmkmfnkaoaaaWd
import Derived.Lib.OthersKept
namespace Go.Proofs.Ytjgdmkmfnkaoaaa
open Go.RowKit

/-- a letter's flag -/
def flagV (r : Nat) : Nat := if r = 70 then 1 else if r = 83 then 2 else if r = 82 then 4 else if r = 80 then 8 else if r = 65 then 16 else 0
theorem flagV_lt (r : Nat) : flagV r < 32 := by unfold flagV; repeat' split
                                                all_goals omega
def lets : List UInt8 := [70, 83, 82, 80, 65]
theorem iterPos_of {w : World} {b p : Nat} {s : ByteArray} (h : w.heap[b]? = some (.stringIter s p)) : w.iterPos b = p := by
  unfold World.iterPos
  rw [h]
theorem flagV_none {r : Nat} (h0 : r ≠ 70) (h1 : r ≠ 83) (h2 : r ≠ 82) (h3 : r ≠ 80) (h4 : r ≠ 65) : flagV r = 0 := by
  unfold flagV
  rw [if_neg h0, if_neg h1, if_neg h2, if_neg h3, if_neg h4]
/-- the letters ahead of place k are not r -/
def notYet (r k : Nat) : Prop := ∀ j, j < k → (lets.getD j 0).toNat ≠ r
theorem notYet_next {r k : Nat} (h : notYet r k) (hk : (lets.getD k 0).toNat ≠ r) : notYet r (k + 1) := fun j hj => by
  rcases Nat.lt_or_ge j k with h1 | h1
  · exact h j h1
  · obtain rfl : j = k := by omega
    exact hk
theorem five (k : Nat) (h : k ≤ 5) : k = 0 ∨ k = 1 ∨ k = 2 ∨ k = 3 ∨ k = 4 ∨ k = 5 := by omega

set_option maxRecDepth 100000 in
set_option maxHeartbeats 2000000 in
theorem flag_any (r : Nat) (w : World) : Calls Try.prog 45 #[.int .i32 (r : Int)] w fun e w' => e = .returned (.int .u8 (flagV r : Nat)) ∧ Below w.heap.size w w' := by
  go_enter Try.func45, Try.ntmps45
  go_wp2
  go_loopw [3, 4] (fun v h wr => ∃ k : Nat, k ≤ 5 ∧ notYet r k ∧ wr.heap[w.heap.size]? = some (.stringIter ⟨lets.toArray⟩ k) ∧ Below w.heap.size w wr) (fun _ _ wr => 5 - wr.iterPos w.heap.size)
  case atStart => exact ⟨0, by omega, fun j hj => by omega, heap_alloc_new w _, (Below.refl _ _).alloc (Nat.le_refl _) _⟩
  case round =>
    obtain ⟨k, hk, hny, hit, hbl⟩ := hrel
    have HM := Lib.hid (iterPos_of hit)
    have HNY := Lib.hid hny
    have HIT := Lib.hid hit
    have HBL := Lib.hid hbl
    clear hny hit hbl
    rcases five k hk with rfl | rfl | rfl | rfl | rfl | rfl
    · have hnx : ∀ ty, (Instr.next (.pointer (some ⟨w.heap.size, 0, none⟩)) true ty).run Try.prog wr = .ok (.tuple #[.bool true, .int .i64 0, .int .i32 70]) (wr.iterAt w.heap.size ⟨lets.toArray⟩ 1) := fun ty => Lib.run_next_ascii_at wr w.heap.size ⟨lets.toArray⟩ 0 ty HIT.out (by decide) (by decide)
      have HB2 := Lib.hid (Lib.below_iterAt HBL.out (Nat.le_refl _) ⟨lets.toArray⟩ 1)
      have HI2 := Lib.hid (Lib.iterAt_heap _ _ _ _ 1 HIT.out)
      by_cases hr : r = 70
      · have HV : Hid (flagV r = 1) := by show _ = _; rw [hr]; rfl
        have q1 := beqT (show (70 : Int) = (r : Int) by omega)
        go_wp2
        go_ret
        exact ⟨by rw [HV.out]; rfl, HB2.out⟩
      · have q1 := beqF (show ¬ (70 : Int) = (r : Int) by omega)
        have HN2 := Lib.hid (notYet_next HNY.out (show (lets.getD 0 0).toNat ≠ r from fun h => hr h.symm))
        go_wp2
        go_roundw
        case rel => exact ⟨1, by omega, HN2.out, HI2.out, HB2.out⟩
        case measure => rw [HM.out, iterPos_of HI2.out]; omega
    · have hnx : ∀ ty, (Instr.next (.pointer (some ⟨w.heap.size, 0, none⟩)) true ty).run Try.prog wr = .ok (.tuple #[.bool true, .int .i64 1, .int .i32 83]) (wr.iterAt w.heap.size ⟨lets.toArray⟩ 2) := fun ty => Lib.run_next_ascii_at wr w.heap.size ⟨lets.toArray⟩ 1 ty HIT.out (by decide) (by decide)
      have HB2 := Lib.hid (Lib.below_iterAt HBL.out (Nat.le_refl _) ⟨lets.toArray⟩ 2)
      have HI2 := Lib.hid (Lib.iterAt_heap _ _ _ _ 2 HIT.out)
      by_cases hr : r = 83
      · have HV : Hid (flagV r = 2) := by show _ = _; rw [hr]; rfl
        have q1 := beqT (show (83 : Int) = (r : Int) by omega)
        go_wp2
        go_ret
        exact ⟨by rw [HV.out]; rfl, HB2.out⟩
      · have q1 := beqF (show ¬ (83 : Int) = (r : Int) by omega)
        have HN2 := Lib.hid (notYet_next HNY.out (show (lets.getD 1 0).toNat ≠ r from fun h => hr h.symm))
        go_wp2
        go_roundw
        case rel => exact ⟨2, by omega, HN2.out, HI2.out, HB2.out⟩
        case measure => rw [HM.out, iterPos_of HI2.out]; omega
    · have hnx : ∀ ty, (Instr.next (.pointer (some ⟨w.heap.size, 0, none⟩)) true ty).run Try.prog wr = .ok (.tuple #[.bool true, .int .i64 2, .int .i32 82]) (wr.iterAt w.heap.size ⟨lets.toArray⟩ 3) := fun ty => Lib.run_next_ascii_at wr w.heap.size ⟨lets.toArray⟩ 2 ty HIT.out (by decide) (by decide)
      have HB2 := Lib.hid (Lib.below_iterAt HBL.out (Nat.le_refl _) ⟨lets.toArray⟩ 3)
      have HI2 := Lib.hid (Lib.iterAt_heap _ _ _ _ 3 HIT.out)
      by_cases hr : r = 82
      · have HV : Hid (flagV r = 4) := by show _ = _; rw [hr]; rfl
        have q1 := beqT (show (82 : Int) = (r : Int) by omega)
        go_wp2
        go_ret
        exact ⟨by rw [HV.out]; rfl, HB2.out⟩
      · have q1 := beqF (show ¬ (82 : Int) = (r : Int) by omega)
        have HN2 := Lib.hid (notYet_next HNY.out (show (lets.getD 2 0).toNat ≠ r from fun h => hr h.symm))
        go_wp2
        go_roundw
        case rel => exact ⟨3, by omega, HN2.out, HI2.out, HB2.out⟩
        case measure => rw [HM.out, iterPos_of HI2.out]; omega
    · have hnx : ∀ ty, (Instr.next (.pointer (some ⟨w.heap.size, 0, none⟩)) true ty).run Try.prog wr = .ok (.tuple #[.bool true, .int .i64 3, .int .i32 80]) (wr.iterAt w.heap.size ⟨lets.toArray⟩ 4) := fun ty => Lib.run_next_ascii_at wr w.heap.size ⟨lets.toArray⟩ 3 ty HIT.out (by decide) (by decide)
      have HB2 := Lib.hid (Lib.below_iterAt HBL.out (Nat.le_refl _) ⟨lets.toArray⟩ 4)
      have HI2 := Lib.hid (Lib.iterAt_heap _ _ _ _ 4 HIT.out)
      by_cases hr : r = 80
      · have HV : Hid (flagV r = 8) := by show _ = _; rw [hr]; rfl
        have q1 := beqT (show (80 : Int) = (r : Int) by omega)
        go_wp2
        go_ret
        exact ⟨by rw [HV.out]; rfl, HB2.out⟩
      · have q1 := beqF (show ¬ (80 : Int) = (r : Int) by omega)
        have HN2 := Lib.hid (notYet_next HNY.out (show (lets.getD 3 0).toNat ≠ r from fun h => hr h.symm))
        go_wp2
        go_roundw
        case rel => exact ⟨4, by omega, HN2.out, HI2.out, HB2.out⟩
        case measure => rw [HM.out, iterPos_of HI2.out]; omega
    · have hnx : ∀ ty, (Instr.next (.pointer (some ⟨w.heap.size, 0, none⟩)) true ty).run Try.prog wr = .ok (.tuple #[.bool true, .int .i64 4, .int .i32 65]) (wr.iterAt w.heap.size ⟨lets.toArray⟩ 5) := fun ty => Lib.run_next_ascii_at wr w.heap.size ⟨lets.toArray⟩ 4 ty HIT.out (by decide) (by decide)
      have HB2 := Lib.hid (Lib.below_iterAt HBL.out (Nat.le_refl _) ⟨lets.toArray⟩ 5)
      have HI2 := Lib.hid (Lib.iterAt_heap _ _ _ _ 5 HIT.out)
      by_cases hr : r = 65
      · have HV : Hid (flagV r = 16) := by show _ = _; rw [hr]; rfl
        have q1 := beqT (show (65 : Int) = (r : Int) by omega)
        go_wp2
        go_ret
        exact ⟨by rw [HV.out]; rfl, HB2.out⟩
      · have q1 := beqF (show ¬ (65 : Int) = (r : Int) by omega)
        have HN2 := Lib.hid (notYet_next HNY.out (show (lets.getD 4 0).toNat ≠ r from fun h => hr h.symm))
        go_wp2
        go_roundw
        case rel => exact ⟨5, by omega, HN2.out, HI2.out, HB2.out⟩
        case measure => rw [HM.out, iterPos_of HI2.out]; omega
    · have hnx : ∀ ty, (Instr.next (.pointer (some ⟨w.heap.size, 0, none⟩)) true ty).run Try.prog wr = .ok (.tuple #[.bool false]) wr := fun ty => Lib.run_next_end_at wr w.heap.size ⟨lets.toArray⟩ 5 ty HIT.out (by decide)
      have HV : Hid (flagV r = 0) := flagV_none (fun h => HNY.out 0 (by omega) (by rw [h]; rfl)) (fun h => HNY.out 1 (by omega) (by rw [h]; rfl)) (fun h => HNY.out 2 (by omega) (by rw [h]; rfl)) (fun h => HNY.out 3 (by omega) (by rw [h]; rfl)) (fun h => HNY.out 4 (by omega) (by rw [h]; rfl))
      go_wp2
      go_ret
      exact ⟨by rw [HV.out]; rfl, HBL.out⟩

/-- the flags of the first k letters, as they are written -/
def flagK (f k : Nat) : List UInt8 := (List.range k).flatMap fun i => if f / 2 ^ i % 2 = 1 then [lets.getD i 0] else []
theorem flagK_next (f k : Nat) : flagK f (k + 1) = flagK f k ++ (if f / 2 ^ k % 2 = 1 then [lets.getD k 0] else []) := by
  unfold flagK
  rw [List.range_succ, List.flatMap_append]
  simp
theorem flagK_all (f : Nat) : flagK f 5 = flagL f := by
  rw [flagK_next, flagK_next, flagK_next, flagK_next, flagK_next]
  unfold flagL
  rw [show f / 2 ^ 0 = f from by simp, show (2 : Nat) ^ 1 = 2 from rfl, show (2 : Nat) ^ 2 = 4 from rfl, show (2 : Nat) ^ 3 = 8 from rfl, show (2 : Nat) ^ 4 = 16 from rfl]
  rfl
theorem and_one (x : Nat) (h : x < 256) : bits .and .u8 (x : Int) 1 = ((x % 2 : Nat) : Int) := by
  rw [show (1 : Int) = ((1 : Nat) : Int) from rfl, u8_and_nat x 1 h (by omega), Nat.and_one_is_mod]
theorem flagsT_none {f : Nat} (h : flagL f = []) : flagsT f = [45] := by unfold flagsT; rw [if_pos h]
theorem flagsT_some {f : Nat} (h : flagL f ≠ []) : flagsT f = flagL f := by unfold flagsT; rw [if_neg h]
set_option maxRecDepth 100000 in
set_option maxHeartbeats 2000000 in
theorem sflags_any (f : Nat) (hf : f < 256) (w : World) : Calls Try.prog 19 #[.int .u8 (f : Int)] w fun e w' => e = .returned (txt (flagsT f)) ∧ Below w.heap.size w w' := by
  go_enter Try.func19, Try.ntmps19
  go_wp2
  go_loopw [3, 4, 5] (fun s v h wr => ∃ (k : Nat) (t : List UInt8), k ≤ 5 ∧ s = .string ⟨t.toArray⟩ ∧ t.length ≤ 5 ∧ t.length ≤ k ∧ Hid (t = flagK f k) ∧ wr.heap[w.heap.size]? = some (.stringIter ⟨lets.toArray⟩ k) ∧ Below w.heap.size w wr) (fun _ _ _ wr => 5 - wr.iterPos w.heap.size)
  case atStart => exact ⟨0, [], by omega, rfl, by simp, by simp, rfl, heap_alloc_new w _, (Below.refl _ _).alloc (Nat.le_refl _) _⟩
  case round =>
    obtain ⟨k, t, hk, rfl, htl, htk, HT, hit, hbl⟩ := hrel
    have HM := Lib.hid (iterPos_of hit)
    have HIT := Lib.hid hit
    have HBL := Lib.hid hbl
    clear hit hbl
    rcases five k hk with rfl | rfl | rfl | rfl | rfl | rfl
    · have hnx : ∀ ty, (Instr.next (.pointer (some ⟨w.heap.size, 0, none⟩)) true ty).run Try.prog wr = .ok (.tuple #[.bool true, .int .i64 0, .int .i32 70]) (wr.iterAt w.heap.size ⟨lets.toArray⟩ 1) := fun ty => Lib.run_next_ascii_at wr w.heap.size ⟨lets.toArray⟩ 0 ty HIT.out (by decide) (by decide)
      have HB2 := Lib.hid (Lib.below_iterAt HBL.out (Nat.le_refl _) ⟨lets.toArray⟩ 1)
      have HI2 := Lib.hid (Lib.iterAt_heap _ _ _ _ 1 HIT.out)
      have hsh : (f : Int) = ((f / 2 ^ 0 : Nat) : Int) := by simp
      have hand : bits .and .u8 ((f : Int)) 1 = ((f / 2 ^ 0 % 2 : Nat) : Int) := by rw [hsh]; exact and_one _ (by simp; omega)
      have HNX := Lib.hid (flagK_next f 0)
      obtain ⟨b, hb⟩ : ∃ b, f / 2 ^ 0 % 2 = b := ⟨_, rfl⟩
      have hb2 : b < 2 := by omega
      rw [hb] at hand HNX
      clear hsh hb
      by_cases hr : b = 1
      · have q1 := beqT (show (b : Int) = 1 by omega)
        have HT2 : Hid (t ++ [70] = flagK f 1) := by show _ = _; rw [HNX.out, if_pos hr, HT.out]; rfl
        have he : Utf8.encode 70 = ⟨#[70]⟩ := by decide +kernel
        have ha : (⟨t.toArray⟩ : ByteArray) ++ ⟨#[70]⟩ = ⟨(t ++ [70]).toArray⟩ := str_app t [70]
        have HA := Lib.hid ha
        clear ha
        go_wp2
        go_roundw
        case rel => exact ⟨1, t ++ [70], by omega, by rw [← HA.out], by rw [List.length_append, List.length_singleton]; omega, by rw [List.length_append, List.length_singleton]; omega, HT2.out, HI2.out, HB2.out⟩
        case measure => rw [HM.out, iterPos_of HI2.out]; omega
      · have q1 := beqF (show ¬ (b : Int) = 1 by omega)
        have HT2 : Hid (t = flagK f 1) := by show _ = _; rw [HNX.out, if_neg hr, HT.out]; simp
        go_wp2
        go_roundw
        case rel => exact ⟨1, t, by omega, rfl, by omega, by omega, HT2.out, HI2.out, HB2.out⟩
        case measure => rw [HM.out, iterPos_of HI2.out]; omega
    · have hnx : ∀ ty, (Instr.next (.pointer (some ⟨w.heap.size, 0, none⟩)) true ty).run Try.prog wr = .ok (.tuple #[.bool true, .int .i64 1, .int .i32 83]) (wr.iterAt w.heap.size ⟨lets.toArray⟩ 2) := fun ty => Lib.run_next_ascii_at wr w.heap.size ⟨lets.toArray⟩ 1 ty HIT.out (by decide) (by decide)
      have HB2 := Lib.hid (Lib.below_iterAt HBL.out (Nat.le_refl _) ⟨lets.toArray⟩ 2)
      have HI2 := Lib.hid (Lib.iterAt_heap _ _ _ _ 2 HIT.out)
      have hsh : (f : Int) / 2 = ((f / 2 ^ 1 : Nat) : Int) := by omega
      have hand : bits .and .u8 ((f : Int) / 2) 1 = ((f / 2 ^ 1 % 2 : Nat) : Int) := by rw [hsh]; exact and_one _ (by omega)
      have HNX := Lib.hid (flagK_next f 1)
      obtain ⟨b, hb⟩ : ∃ b, f / 2 ^ 1 % 2 = b := ⟨_, rfl⟩
      have hb2 : b < 2 := by omega
      rw [hb] at hand HNX
      clear hsh hb
      by_cases hr : b = 1
      · have q1 := beqT (show (b : Int) = 1 by omega)
        have HT2 : Hid (t ++ [83] = flagK f 2) := by show _ = _; rw [HNX.out, if_pos hr, HT.out]; rfl
        have he : Utf8.encode 83 = ⟨#[83]⟩ := by decide +kernel
        have ha : (⟨t.toArray⟩ : ByteArray) ++ ⟨#[83]⟩ = ⟨(t ++ [83]).toArray⟩ := str_app t [83]
        have HA := Lib.hid ha
        clear ha
        go_wp2
        go_roundw
        case rel => exact ⟨2, t ++ [83], by omega, by rw [← HA.out], by rw [List.length_append, List.length_singleton]; omega, by rw [List.length_append, List.length_singleton]; omega, HT2.out, HI2.out, HB2.out⟩
        case measure => rw [HM.out, iterPos_of HI2.out]; omega
      · have q1 := beqF (show ¬ (b : Int) = 1 by omega)
        have HT2 : Hid (t = flagK f 2) := by show _ = _; rw [HNX.out, if_neg hr, HT.out]; simp
        go_wp2
        go_roundw
        case rel => exact ⟨2, t, by omega, rfl, by omega, by omega, HT2.out, HI2.out, HB2.out⟩
        case measure => rw [HM.out, iterPos_of HI2.out]; omega
    · have hnx : ∀ ty, (Instr.next (.pointer (some ⟨w.heap.size, 0, none⟩)) true ty).run Try.prog wr = .ok (.tuple #[.bool true, .int .i64 2, .int .i32 82]) (wr.iterAt w.heap.size ⟨lets.toArray⟩ 3) := fun ty => Lib.run_next_ascii_at wr w.heap.size ⟨lets.toArray⟩ 2 ty HIT.out (by decide) (by decide)
      have HB2 := Lib.hid (Lib.below_iterAt HBL.out (Nat.le_refl _) ⟨lets.toArray⟩ 3)
      have HI2 := Lib.hid (Lib.iterAt_heap _ _ _ _ 3 HIT.out)
      have hsh : (f : Int) / 4 = ((f / 2 ^ 2 : Nat) : Int) := by omega
      have hand : bits .and .u8 ((f : Int) / 4) 1 = ((f / 2 ^ 2 % 2 : Nat) : Int) := by rw [hsh]; exact and_one _ (by omega)
      have HNX := Lib.hid (flagK_next f 2)
      obtain ⟨b, hb⟩ : ∃ b, f / 2 ^ 2 % 2 = b := ⟨_, rfl⟩
      have hb2 : b < 2 := by omega
      rw [hb] at hand HNX
      clear hsh hb
      by_cases hr : b = 1
      · have q1 := beqT (show (b : Int) = 1 by omega)
        have HT2 : Hid (t ++ [82] = flagK f 3) := by show _ = _; rw [HNX.out, if_pos hr, HT.out]; rfl
        have he : Utf8.encode 82 = ⟨#[82]⟩ := by decide +kernel
        have ha : (⟨t.toArray⟩ : ByteArray) ++ ⟨#[82]⟩ = ⟨(t ++ [82]).toArray⟩ := str_app t [82]
        have HA := Lib.hid ha
        clear ha
        go_wp2
        go_roundw
        case rel => exact ⟨3, t ++ [82], by omega, by rw [← HA.out], by rw [List.length_append, List.length_singleton]; omega, by rw [List.length_append, List.length_singleton]; omega, HT2.out, HI2.out, HB2.out⟩
        case measure => rw [HM.out, iterPos_of HI2.out]; omega
      · have q1 := beqF (show ¬ (b : Int) = 1 by omega)
        have HT2 : Hid (t = flagK f 3) := by show _ = _; rw [HNX.out, if_neg hr, HT.out]; simp
        go_wp2
        go_roundw
        case rel => exact ⟨3, t, by omega, rfl, by omega, by omega, HT2.out, HI2.out, HB2.out⟩
        case measure => rw [HM.out, iterPos_of HI2.out]; omega
    · have hnx : ∀ ty, (Instr.next (.pointer (some ⟨w.heap.size, 0, none⟩)) true ty).run Try.prog wr = .ok (.tuple #[.bool true, .int .i64 3, .int .i32 80]) (wr.iterAt w.heap.size ⟨lets.toArray⟩ 4) := fun ty => Lib.run_next_ascii_at wr w.heap.size ⟨lets.toArray⟩ 3 ty HIT.out (by decide) (by decide)
      have HB2 := Lib.hid (Lib.below_iterAt HBL.out (Nat.le_refl _) ⟨lets.toArray⟩ 4)
      have HI2 := Lib.hid (Lib.iterAt_heap _ _ _ _ 4 HIT.out)
      have hsh : (f : Int) / 8 = ((f / 2 ^ 3 : Nat) : Int) := by omega
      have hand : bits .and .u8 ((f : Int) / 8) 1 = ((f / 2 ^ 3 % 2 : Nat) : Int) := by rw [hsh]; exact and_one _ (by omega)
      have HNX := Lib.hid (flagK_next f 3)
      obtain ⟨b, hb⟩ : ∃ b, f / 2 ^ 3 % 2 = b := ⟨_, rfl⟩
      have hb2 : b < 2 := by omega
      rw [hb] at hand HNX
      clear hsh hb
      by_cases hr : b = 1
      · have q1 := beqT (show (b : Int) = 1 by omega)
        have HT2 : Hid (t ++ [80] = flagK f 4) := by show _ = _; rw [HNX.out, if_pos hr, HT.out]; rfl
        have he : Utf8.encode 80 = ⟨#[80]⟩ := by decide +kernel
        have ha : (⟨t.toArray⟩ : ByteArray) ++ ⟨#[80]⟩ = ⟨(t ++ [80]).toArray⟩ := str_app t [80]
        have HA := Lib.hid ha
        clear ha
        go_wp2
        go_roundw
        case rel => exact ⟨4, t ++ [80], by omega, by rw [← HA.out], by rw [List.length_append, List.length_singleton]; omega, by rw [List.length_append, List.length_singleton]; omega, HT2.out, HI2.out, HB2.out⟩
        case measure => rw [HM.out, iterPos_of HI2.out]; omega
      · have q1 := beqF (show ¬ (b : Int) = 1 by omega)
        have HT2 : Hid (t = flagK f 4) := by show _ = _; rw [HNX.out, if_neg hr, HT.out]; simp
        go_wp2
        go_roundw
        case rel => exact ⟨4, t, by omega, rfl, by omega, by omega, HT2.out, HI2.out, HB2.out⟩
        case measure => rw [HM.out, iterPos_of HI2.out]; omega
    · have hnx : ∀ ty, (Instr.next (.pointer (some ⟨w.heap.size, 0, none⟩)) true ty).run Try.prog wr = .ok (.tuple #[.bool true, .int .i64 4, .int .i32 65]) (wr.iterAt w.heap.size ⟨lets.toArray⟩ 5) := fun ty => Lib.run_next_ascii_at wr w.heap.size ⟨lets.toArray⟩ 4 ty HIT.out (by decide) (by decide)
      have HB2 := Lib.hid (Lib.below_iterAt HBL.out (Nat.le_refl _) ⟨lets.toArray⟩ 5)
      have HI2 := Lib.hid (Lib.iterAt_heap _ _ _ _ 5 HIT.out)
      have hsh : (f : Int) / 16 = ((f / 2 ^ 4 : Nat) : Int) := by omega
      have hand : bits .and .u8 ((f : Int) / 16) 1 = ((f / 2 ^ 4 % 2 : Nat) : Int) := by rw [hsh]; exact and_one _ (by omega)
      have HNX := Lib.hid (flagK_next f 4)
      obtain ⟨b, hb⟩ : ∃ b, f / 2 ^ 4 % 2 = b := ⟨_, rfl⟩
      have hb2 : b < 2 := by omega
      rw [hb] at hand HNX
      clear hsh hb
      by_cases hr : b = 1
      · have q1 := beqT (show (b : Int) = 1 by omega)
        have HT2 : Hid (t ++ [65] = flagK f 5) := by show _ = _; rw [HNX.out, if_pos hr, HT.out]; rfl
        have he : Utf8.encode 65 = ⟨#[65]⟩ := by decide +kernel
        have ha : (⟨t.toArray⟩ : ByteArray) ++ ⟨#[65]⟩ = ⟨(t ++ [65]).toArray⟩ := str_app t [65]
        have HA := Lib.hid ha
        clear ha
        go_wp2
        go_roundw
        case rel => exact ⟨5, t ++ [65], by omega, by rw [← HA.out], by rw [List.length_append, List.length_singleton]; omega, by rw [List.length_append, List.length_singleton]; omega, HT2.out, HI2.out, HB2.out⟩
        case measure => rw [HM.out, iterPos_of HI2.out]; omega
      · have q1 := beqF (show ¬ (b : Int) = 1 by omega)
        have HT2 : Hid (t = flagK f 5) := by show _ = _; rw [HNX.out, if_neg hr, HT.out]; simp
        go_wp2
        go_roundw
        case rel => exact ⟨5, t, by omega, rfl, by omega, by omega, HT2.out, HI2.out, HB2.out⟩
        case measure => rw [HM.out, iterPos_of HI2.out]; omega
    · have hnx : ∀ ty, (Instr.next (.pointer (some ⟨w.heap.size, 0, none⟩)) true ty).run Try.prog wr = .ok (.tuple #[.bool false]) wr := fun ty => Lib.run_next_end_at wr w.heap.size ⟨lets.toArray⟩ 5 ty HIT.out (by decide)
      rw [flagK_all] at HT
      by_cases hn : t = []
      · have HF : Hid (flagsT f = [45]) := flagsT_none (by rw [← HT.out]; exact hn)
        subst hn
        go_wp2
        go_ret
        exact ⟨by rw [HF.out]; rfl, HBL.out⟩
      · have HF : Hid (flagsT f = t) := by show _ = _; rw [flagsT_some (by rw [← HT.out]; exact hn), HT.out]
        obtain ⟨q3, q4⟩ := texts_ne hn
        go_wp2
        go_ret
        exact ⟨by rw [HF.out]; rfl, HBL.out⟩

/-- the flags of all letters among bytes -/
def orF (l : List UInt8) : Nat := l.foldl (fun a c => a ||| flagV c.toNat) 0
theorem orF_next (s : List UInt8) (k : Nat) (h : k < s.length) : orF (s.take (k + 1)) = orF (s.take k) ||| flagV s[k].toNat := by
  unfold orF
  rw [List.take_succ_eq_append_getElem h, List.foldl_append]
  rfl
theorem orF_flags : ∀ g : Fin 32, orF (flagsT g.val) = g.val := by decide +kernel
theorem ascii_flags : ∀ g : Fin 32, ((flagsT g.val).all fun c => decide (c.toNat < 128)) = true := by decide +kernel
theorem or_lt {a b : Nat} (ha : a < 32) (hb : b < 32) : a ||| b < 32 := Nat.or_lt_two_pow (n := 5) ha hb
/-- what ReadFlags makes of the flags that it gathered -/
theorem read_gathered {s : List UInt8} {f : Nat} (h : (∀ c ∈ s, c.toNat < 128) → f = orF s) (hs : flagsT f ≠ s) : readFlags s = (0, 7) := by
  refine read_none s fun g hg he => hs ?_
  have h1 := ascii_flags ⟨g, hg⟩
  have h2 := orF_flags ⟨g, hg⟩
  simp only at h1 h2
  rw [he] at h1 h2
  have h3 : f = g := by
    rw [← h2]
    exact h fun c hc => by simpa using (List.all_eq_true.1 h1) c hc
  rw [h3, he]
set_option maxRecDepth 100000 in
set_option maxHeartbeats 2000000 in
theorem sread_any (s : List UInt8) (w : World) : Calls Try.prog 17 #[txt s] w fun e w' => e = .returned (.tuple #[.int .u8 ((readFlags s).1 : Nat), .int .i64 (readFlags s).2]) ∧ Below w.heap.size w w' := by
  go_enter Try.func17, Try.ntmps17
  go_wp2
  go_loopw [4, 6] (fun v h wr => ∃ k f : Nat, v = .int .u8 (f : Int) ∧ f < 32 ∧ Hid ((∀ c ∈ s, c.toNat < 128) → f = orF (s.take k)) ∧ wr.heap[w.heap.size]? = some (.stringIter ⟨s.toArray⟩ k) ∧ Below w.heap.size w wr) (fun _ _ wr => s.length - wr.iterPos w.heap.size)
  case atStart => exact ⟨0, 0, rfl, by omega, fun _ => rfl, heap_alloc_new w _, (Below.refl _ _).alloc (Nat.le_refl _) _⟩
  case round =>
    obtain ⟨k, f, rfl, hf, HO, hit, hbl⟩ := hrel
    have HM := Lib.hid (iterPos_of hit)
    have HIT := Lib.hid hit
    have HBL := Lib.hid hbl
    clear hit hbl
    by_cases hks : k < s.length
    · obtain ⟨r, p, hnx, hp, hor⟩ : ∃ (r p : Nat), (∀ ty, (Instr.next (.pointer (some ⟨w.heap.size, 0, none⟩)) true ty).run Try.prog wr = .ok (.tuple #[.bool true, .int .i64 k, .int .i32 r]) (wr.iterAt w.heap.size ⟨s.toArray⟩ p)) ∧ k < p ∧ ((∀ c ∈ s, c.toNat < 128) → f ||| flagV r = orF (s.take p)) := by
        by_cases ha : s[k].toNat < 128
        · refine ⟨s[k].toNat, k + 1, fun ty => Lib.run_next_ascii_at wr w.heap.size ⟨s.toArray⟩ k ty HIT.out hks ha, by omega, fun h => ?_⟩
          rw [orF_next s k hks, HO.out h]
        · have hd := decode_high ⟨s.toArray⟩ k hks (by show 128 ≤ s[k].toNat; omega)
          exact ⟨_, _, fun ty => Lib.run_next_any_at wr w.heap.size ⟨s.toArray⟩ k ty HIT.out hks, by have := hd.2; omega, fun h => absurd (h _ (List.getElem_mem hks)) ha⟩
      have HB2 := Lib.hid (Lib.below_iterAt HBL.out (Nat.le_refl _) ⟨s.toArray⟩ p)
      have HI2 := Lib.hid (Lib.iterAt_heap _ _ _ _ p HIT.out)
      have HO2 := Lib.hid hor
      have hv := flagV_lt r
      have HFL := Lib.hid (fun w => flag_any r w)
      obtain ⟨b, hb⟩ : ∃ b, flagV r = b := ⟨_, rfl⟩
      rw [hb] at HO2 hv
      have HBV := Lib.hid hb
      have hor3 : bits .or .u8 (f : Int) (b : Int) = ((f ||| b : Nat) : Int) := u8_or_nat f b (by omega) (by omega)
      have hlt := or_lt hf hv
      clear hor hb
      go_wp2_with fail
      refine (HFL.out _).mono ?_
      rw [HBV.out]
      rintro e w2 ⟨rfl, hb2⟩
      have hi3 := (hb2.block w.heap.size (row_lt HI2.out)).trans HI2.out
      have HI3 := Lib.hid hi3
      have HB3 := Lib.hid (HB2.out.trans (hb2.mono HB2.out.size))
      clear hb2 hi3
      go_wp2
      go_roundw
      case rel => exact ⟨p, f ||| b, rfl, hlt, HO2.out, HI3.out, HB3.out⟩
      case measure => rw [HM.out, iterPos_of HI3.out]; omega
    · have hnx : ∀ ty, (Instr.next (.pointer (some ⟨w.heap.size, 0, none⟩)) true ty).run Try.prog wr = .ok (.tuple #[.bool false]) wr := fun ty => Lib.run_next_end_at wr w.heap.size ⟨s.toArray⟩ k ty HIT.out (by show ¬ k < s.length; exact hks)
      rw [List.take_of_length_le (by omega)] at HO
      have HFL := Lib.hid (fun w => sflags_any f (by omega) w)
      by_cases hq : flagsT f = s
      · have HR : Hid (readFlags s = (f, 0)) := by show _ = _; rw [← hq]; exact read_flags f hf
        rw [hq] at HFL
        clear hq
        go_wp2_with fail
        refine (HFL.out _).mono ?_
        rintro e w2 ⟨rfl, hb2⟩
        have HB3 := Lib.hid (HBL.out.trans (hb2.mono HBL.out.size))
        clear hb2
        unfold txt
        go_wp2
        go_ret2
        rw [HR.out]
        exact ⟨rfl, HB3.out⟩
      · have HR := Lib.hid (read_gathered HO.out hq)
        obtain ⟨q3, q4⟩ := texts_ne hq
        generalize flagsT f = t at *
        go_wp2_with fail
        refine (HFL.out _).mono ?_
        rintro e w2 ⟨rfl, hb2⟩
        have HB3 := Lib.hid (HBL.out.trans (hb2.mono HBL.out.size))
        clear hb2
        unfold txt
        go_wp2
        go_ret2
        rw [HR.out]
        exact ⟨rfl, HB3.out⟩
set_option maxRecDepth 100000 in
set_option maxHeartbeats 2000000 in
theorem rflags_any (f : Nat) (hf : f < 256) (w : World) : Calls Try.prog 20 #[.int .u8 (f : Int)] w fun e w' => e = .returned (txt (flagsT f)) ∧ w = w' := by
  go_enter Try.func20, Try.ntmps20
  go_wp2
  go_loop [0, 3, 4] (fun g s i => ∃ (k q : Nat) (t : List UInt8), k ≤ 5 ∧ i = .int .i64 (k : Int) ∧ g = .int .u8 (q : Int) ∧ q < 256 ∧ Hid (q = f / 2 ^ k) ∧ s = .string ⟨t.toArray⟩ ∧ t.length ≤ 5 ∧ t.length ≤ k ∧ Hid (t = flagK f k)) (fun _ _ i => 5 - (intOf i).toNat)
  case atStart => exact ⟨0, f, [], by omega, rfl, rfl, hf, by show _ = _; simp, rfl, by simp, by simp, rfl⟩
  case round =>
    obtain ⟨k, q, t, hk, rfl, rfl, hq, HQ, rfl, htl, htk, HT⟩ := hrel
    have HNX := Lib.hid (flagK_next f k)
    rw [← HQ.out] at HNX
    have HQ2 : Hid (q / 2 = f / 2 ^ (k + 1)) := by show _ = _; rw [HQ.out, Nat.pow_succ, Nat.div_div_eq_div_mul]
    have hm : (q : Int) % 2 = ((q % 2 : Nat) : Int) := by omega
    have hd : (q : Int) / 2 = ((q / 2 : Nat) : Int) := by omega
    obtain ⟨b, hb⟩ : ∃ b, q % 2 = b := ⟨_, rfl⟩
    obtain ⟨q2, hq2⟩ : ∃ q2, q / 2 = q2 := ⟨_, rfl⟩
    have hql : q2 < 256 := by omega
    have hb2 : b < 2 := by omega
    rw [hb] at HNX hm
    rw [hq2] at HQ2 hd
    clear hb hq2
    rcases five k hk with rfl | rfl | rfl | rfl | rfl | rfl
    · by_cases hr : b = 1
      · have q1 := beqT (show (b : Int) = 1 by omega)
        have HT2 : Hid (t ++ [70] = flagK f 1) := by show _ = _; rw [HNX.out, if_pos hr, HT.out]; rfl
        have ha : (⟨t.toArray⟩ : ByteArray) ++ ⟨#[70]⟩ = ⟨(t ++ [70]).toArray⟩ := str_app t [70]
        have HA := Lib.hid ha
        have hx : (⟨#[70, 83, 82, 80, 65]⟩ : ByteArray).extract 0 1 = ⟨#[70]⟩ := by decide +kernel
        clear ha
        go_wp2
        go_round
        case rel => exact ⟨1, q2, t ++ [70], by omega, by go_num, rfl, hql, HQ2, by rw [← HA.out], by rw [List.length_append, List.length_singleton]; omega, by rw [List.length_append, List.length_singleton]; omega, HT2.out⟩
        case measure => simp [intOf]
      · have q1 := beqF (show ¬ (b : Int) = 1 by omega)
        have HT2 : Hid (t = flagK f 1) := by show _ = _; rw [HNX.out, if_neg hr, HT.out]; simp
        go_wp2
        go_round
        case rel => exact ⟨1, q2, t, by omega, by go_num, rfl, hql, HQ2, rfl, by omega, by omega, HT2.out⟩
        case measure => simp [intOf]
    · by_cases hr : b = 1
      · have q1 := beqT (show (b : Int) = 1 by omega)
        have HT2 : Hid (t ++ [83] = flagK f 2) := by show _ = _; rw [HNX.out, if_pos hr, HT.out]; rfl
        have ha : (⟨t.toArray⟩ : ByteArray) ++ ⟨#[83]⟩ = ⟨(t ++ [83]).toArray⟩ := str_app t [83]
        have HA := Lib.hid ha
        have hx : (⟨#[70, 83, 82, 80, 65]⟩ : ByteArray).extract 1 2 = ⟨#[83]⟩ := by decide +kernel
        clear ha
        go_wp2
        go_round
        case rel => exact ⟨2, q2, t ++ [83], by omega, by go_num, rfl, hql, HQ2, by rw [← HA.out], by rw [List.length_append, List.length_singleton]; omega, by rw [List.length_append, List.length_singleton]; omega, HT2.out⟩
        case measure => simp [intOf]
      · have q1 := beqF (show ¬ (b : Int) = 1 by omega)
        have HT2 : Hid (t = flagK f 2) := by show _ = _; rw [HNX.out, if_neg hr, HT.out]; simp
        go_wp2
        go_round
        case rel => exact ⟨2, q2, t, by omega, by go_num, rfl, hql, HQ2, rfl, by omega, by omega, HT2.out⟩
        case measure => simp [intOf]
    · by_cases hr : b = 1
      · have q1 := beqT (show (b : Int) = 1 by omega)
        have HT2 : Hid (t ++ [82] = flagK f 3) := by show _ = _; rw [HNX.out, if_pos hr, HT.out]; rfl
        have ha : (⟨t.toArray⟩ : ByteArray) ++ ⟨#[82]⟩ = ⟨(t ++ [82]).toArray⟩ := str_app t [82]
        have HA := Lib.hid ha
        have hx : (⟨#[70, 83, 82, 80, 65]⟩ : ByteArray).extract 2 3 = ⟨#[82]⟩ := by decide +kernel
        clear ha
        go_wp2
        go_round
        case rel => exact ⟨3, q2, t ++ [82], by omega, by go_num, rfl, hql, HQ2, by rw [← HA.out], by rw [List.length_append, List.length_singleton]; omega, by rw [List.length_append, List.length_singleton]; omega, HT2.out⟩
        case measure => simp [intOf]
      · have q1 := beqF (show ¬ (b : Int) = 1 by omega)
        have HT2 : Hid (t = flagK f 3) := by show _ = _; rw [HNX.out, if_neg hr, HT.out]; simp
        go_wp2
        go_round
        case rel => exact ⟨3, q2, t, by omega, by go_num, rfl, hql, HQ2, rfl, by omega, by omega, HT2.out⟩
        case measure => simp [intOf]
    · by_cases hr : b = 1
      · have q1 := beqT (show (b : Int) = 1 by omega)
        have HT2 : Hid (t ++ [80] = flagK f 4) := by show _ = _; rw [HNX.out, if_pos hr, HT.out]; rfl
        have ha : (⟨t.toArray⟩ : ByteArray) ++ ⟨#[80]⟩ = ⟨(t ++ [80]).toArray⟩ := str_app t [80]
        have HA := Lib.hid ha
        have hx : (⟨#[70, 83, 82, 80, 65]⟩ : ByteArray).extract 3 4 = ⟨#[80]⟩ := by decide +kernel
        clear ha
        go_wp2
        go_round
        case rel => exact ⟨4, q2, t ++ [80], by omega, by go_num, rfl, hql, HQ2, by rw [← HA.out], by rw [List.length_append, List.length_singleton]; omega, by rw [List.length_append, List.length_singleton]; omega, HT2.out⟩
        case measure => simp [intOf]
      · have q1 := beqF (show ¬ (b : Int) = 1 by omega)
        have HT2 : Hid (t = flagK f 4) := by show _ = _; rw [HNX.out, if_neg hr, HT.out]; simp
        go_wp2
        go_round
        case rel => exact ⟨4, q2, t, by omega, by go_num, rfl, hql, HQ2, rfl, by omega, by omega, HT2.out⟩
        case measure => simp [intOf]
    · by_cases hr : b = 1
      · have q1 := beqT (show (b : Int) = 1 by omega)
        have HT2 : Hid (t ++ [65] = flagK f 5) := by show _ = _; rw [HNX.out, if_pos hr, HT.out]; rfl
        have ha : (⟨t.toArray⟩ : ByteArray) ++ ⟨#[65]⟩ = ⟨(t ++ [65]).toArray⟩ := str_app t [65]
        have HA := Lib.hid ha
        have hx : (⟨#[70, 83, 82, 80, 65]⟩ : ByteArray).extract 4 5 = ⟨#[65]⟩ := by decide +kernel
        clear ha
        go_wp2
        go_round
        case rel => exact ⟨5, q2, t ++ [65], by omega, by go_num, rfl, hql, HQ2, by rw [← HA.out], by rw [List.length_append, List.length_singleton]; omega, by rw [List.length_append, List.length_singleton]; omega, HT2.out⟩
        case measure => simp [intOf]
      · have q1 := beqF (show ¬ (b : Int) = 1 by omega)
        have HT2 : Hid (t = flagK f 5) := by show _ = _; rw [HNX.out, if_neg hr, HT.out]; simp
        go_wp2
        go_round
        case rel => exact ⟨5, q2, t, by omega, by go_num, rfl, hql, HQ2, rfl, by omega, by omega, HT2.out⟩
        case measure => simp [intOf]
    · rw [flagK_all] at HT
      by_cases hn : t = []
      · have HF : Hid (flagsT f = [45]) := flagsT_none (by rw [← HT.out]; exact hn)
        subst hn
        go_wp2
        go_ret
        exact ⟨by rw [HF.out]; rfl, rfl⟩
      · have HF : Hid (flagsT f = t) := by show _ = _; rw [flagsT_some (by rw [← HT.out]; exact hn), HT.out]
        obtain ⟨q3, q4⟩ := texts_ne hn
        go_wp2
        go_ret
        exact ⟨by rw [HF.out]; rfl, rfl⟩
set_option maxRecDepth 100000 in
set_option maxHeartbeats 2000000 in
theorem rread_any (s : List UInt8) (w : World) : Calls Try.prog 18 #[txt s] w fun e w' => e = .returned (.tuple #[.int .u8 ((readFlags s).1 : Nat), .int .i64 (readFlags s).2]) ∧ w = w' := by
  unfold txt
  go_enter Try.func18, Try.ntmps18
  go_wp2
  go_loop [4] (fun i => ∃ k : Nat, k ≤ 32 ∧ i = .int .i64 (k : Int) ∧ Hid (∀ f, f < k → flagsT f ≠ s)) (fun i => 32 - (intOf i).toNat)
  case atStart => exact ⟨0, by omega, rfl, fun f hf => by omega⟩
  case round =>
    obtain ⟨k, hk, rfl, HN⟩ := hrel
    by_cases hks : k < 32
    · have HFL := Lib.hid (fun w => rflags_any k (by omega) w)
      have hw : IntKind.u8.wrap (k : Int) = (k : Int) := IntWalk.u8_in _ ⟨by omega, by omega⟩
      by_cases hq : flagsT k = s
      · have HR : Hid (readFlags s = (k, 0)) := by show _ = _; rw [← hq]; exact read_flags k hks
        rw [hq] at HFL
        clear hq
        go_wp2_with fail
        refine (HFL.out _).mono ?_
        rintro e w2 ⟨rfl, rfl⟩
        unfold txt
        go_wp2
        go_ret2
        rw [HR.out]
        exact ⟨rfl, rfl⟩
      · have HN2 : Hid (∀ f, f < k + 1 → flagsT f ≠ s) := fun f hf => by
          rcases Nat.lt_or_ge f k with h | h
          · exact HN.out f h
          · obtain rfl : f = k := by omega
            exact hq
        obtain ⟨q3, q4⟩ := texts_ne hq
        have HT := Lib.hid (rfl : flagsT k = flagsT k)
        generalize flagsT k = t at q3 q4 HFL
        clear hq HT
        go_wp2_with fail
        refine (HFL.out _).mono ?_
        rintro e w2 ⟨rfl, rfl⟩
        unfold txt
        go_wp2
        go_round
        case rel => exact ⟨k + 1, by omega, by go_num, HN2.out⟩
        case measure => simp [intOf]; omega
    · obtain rfl : k = 32 := by omega
      have HR := Lib.hid (read_none s HN.out)
      go_wp2
      go_ret2
      rw [HR.out]
      exact ⟨rfl, rfl⟩
end Go.Proofs.Ytjgdmkmfnkaoaaa
