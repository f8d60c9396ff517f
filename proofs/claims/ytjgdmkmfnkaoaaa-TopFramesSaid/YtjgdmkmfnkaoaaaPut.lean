/-
  octets.Put(n, size): no bytes and ErrArg or ErrLong, or size new bytes, the number's, the highest first. Every n and size.
-/
import Derived.Test.YtjgdmkmfnkaoaaaMem
import Derived.Test.YtjgdmkmfnkaoaaaNum
import Derived.Test.YtjgdmkmfnkaoaaaShelf
namespace Go.Proofs.Ytjgdmkmfnkaoaaa
open Go.RowKit

/-- what Put answers: the bytes and the error -/
def putS (n : Nat) (size : Int) : List UInt8 × Int :=
  if size < 1 ∨ 8 < size then ([], 1) else if 2 ^ (8 * size.toNat) ≤ n then ([], 4) else (putL n size.toNat, 0)

def PutPost (w : World) (r : List UInt8 × Int) (e : Ending) (w' : World) : Prop :=
  ∃ A c, e = .returned (.tuple #[.slice A r.1.length c, .int .i64 r.2]) ∧ Rd w' w.heap.size w'.heap.size A (cells r.1) ∧ Below w.heap.size w w'

theorem info5 : (Try.prog.info? 5).map (fun i => (i.zero, i.size, i.bytes)) = some (some (.int .u8 0), 1, 1) := by kernel_rfl

set_option maxHeartbeats 400000 in
set_option maxRecDepth 100000 in
theorem put_arg (n : Nat) (size : Int) (w : World) (hs : size < 1 ∨ 8 < size) :
    Calls Try.prog 49 #[.int .u64 n, .int .i64 size] w fun e w' => e = .returned (.tuple #[.slice none 0 0, .int .i64 1]) ∧ w = w' := by
  rcases hs with hs | hs
  all_goals
    go_enter Try.func49, Try.ntmps49
    go_wp2
    go_ret2
    exact ⟨rfl, rfl⟩

theorem len64 (n : Nat) (w : World) (h : (n : Int) ≤ 18446744073709551615) :
    Calls Try.prog 73 #[.int .u64 n] w fun e w' => e = .returned (.int .i64 (Lib.bitLen n)) ∧ w = w' :=
  (Try.bits_Len64 n w (by omega) h).mono fun _ _ ⟨he, hw⟩ => ⟨by rw [he, Int.toNat_natCast], hw.symm⟩

set_option maxHeartbeats 400000 in
set_option maxRecDepth 100000 in
theorem put_long (n : Nat) (s : Nat) (w : World) (hn : n < 2 ^ 64) (h1 : 1 ≤ s) (h2 : s ≤ 8) (hlt : 8 * s < Lib.bitLen n) :
    Calls Try.prog 49 #[.int .u64 n, .int .i64 s] w fun e w' => e = .returned (.tuple #[.slice none 0 0, .int .i64 4]) ∧ w = w' := by
  have hb := bitLen_64 n hn
  generalize hB : Lib.bitLen n = bl at hb hlt
  have HB : Hid (Lib.bitLen n = bl) := hB
  clear hB
  have hn1 : (n : Int) ≤ 18446744073709551615 := by omega
  have HN : Hid ((n : Int) ≤ 18446744073709551615) := hn1
  clear hn1 hn
  go_enter Try.func49, Try.ntmps49
  go_wp2_with (go_at_call 73; refine (len64 _ _ HN.out).mono ?_; rintro e w' ⟨rfl, rfl⟩; rw [HB.out])
  go_ret2
  exact ⟨rfl, rfl⟩

/-- the bytes that are there behind k rounds -/
def putRow (n s k : Nat) : List Value := List.replicate (s - k) (.int .u8 0) ++ cells (putL n k)

theorem putRow_zero (n s : Nat) : putRow n s 0 = (madeCells (Value.int .u8 0).cells (s * 1)).toList := by
  rw [show (Value.int .u8 0).cells = #[.int .u8 0] from rfl, toList_madeCells_one]
  simp [putRow, putL, cells]
theorem putRow_get (n s k : Nat) (h : k < s) : (putRow n s k)[s - 1 - k]? = some (.int .u8 0) := by
  unfold putRow
  rw [List.getElem?_append_left (by simp; omega), List.getElem?_replicate, if_pos (by omega)]
theorem putRow_set (n s k : Nat) (h : k < s) : (putRow n s k).set (s - 1 - k) (.int .u8 ((UInt8.ofNat (n / 2 ^ (8 * k))).toNat : Int)) = putRow n s (k + 1) := by
  unfold putRow
  rw [List.set_append_left _ _ (by simp; omega), show s - k = (s - (k + 1)) + 1 from by omega, List.replicate_succ', show s - 1 - k = (List.replicate (s - (k + 1)) (Value.int .u8 0)).length from by simp; omega]
  rw [List.set_append_right _ _ (Nat.le_refl _)]
  simp [putL, cells]
theorem putRow_full (n s : Nat) : putRow n s s = cells (putL n s) := by simp [putRow]

theorem put_byte (n k : Nat) : ((n : Int) / 2 ^ (8 * k) % 256) = ((UInt8.ofNat (n / 2 ^ (8 * k))).toNat : Int) := by
  rw [UInt8.toNat_ofNat', show (2 : Nat) ^ 8 = 256 from rfl, Int.natCast_emod, Int.natCast_ediv, Int.natCast_pow]
  rfl

set_option maxHeartbeats 400000 in
set_option maxRecDepth 100000 in
theorem put_ok (n : Nat) (s : Nat) (w : World) (hn : n < 2 ^ 64) (h1 : 1 ≤ s) (h2 : s ≤ 8) (hlt : ¬ 8 * s < Lib.bitLen n) :
    Calls Try.prog 49 #[.int .u64 n, .int .i64 s] w fun e w' => e = .returned (.tuple #[.slice (some ⟨w.heap.size, 0, none⟩) s s, .int .i64 0]) ∧
      w'.ownsRow w.heap.size 5 1 (.slice (some ⟨w.heap.size, 0, none⟩) s s) s (cells (putL n s)) ∧ Below w.heap.size w w' := by
  obtain ⟨i0, hi, hz0, hz1, hz2⟩ := info_parts info5
  have hb := bitLen_64 n hn
  generalize hB : Lib.bitLen n = bl at hb hlt
  have HB : Hid (Lib.bitLen n = bl) := hB
  clear hB
  have hn1 : (n : Int) ≤ 18446744073709551615 := by omega
  have HN : Hid ((n : Int) ≤ 18446744073709551615) := hn1
  clear hn1 hn
  go_enter Try.func49, Try.ntmps49
  go_wp2_with (first | (go_at_call 73; refine (len64 _ _ HN.out).mono ?_; rintro e w' ⟨rfl, rfl⟩; rw [HB.out]) | (at_make; go_loud (refine wpList_make_full _ rfl _ _ 24 rfl w.heap.size 5 i0 (.int .u8 0) 1 Try.underlying24 hi hz0 hz1 .i64 .i64 _ _ s rfl rfl rfl rfl (by rw [hz2]; omega) (by unfold maxLen; omega) (Nat.le_refl _) ?_); intro w1 hown hgrow))
  have hrow0 : w1.ownsRow w.heap.size 5 1 (.slice (some ⟨w.heap.size, 0, none⟩) s s) s (putRow n s 0) := by rw [putRow_zero]; exact hown
  have hb0 : Below w.heap.size w w1 := (Below.refl _ _).grown hgrow (Nat.le_refl _) (by intro k hk; cases hk)
  clear hown hgrow
  go_loopw [23] (fun i wr => ∃ k : Nat, k ≤ s ∧ i = .int .i64 k ∧ wr.ownsRow w.heap.size 5 1 (.slice (some ⟨w.heap.size, 0, none⟩) s s) s (putRow n s k) ∧ Below w.heap.size w wr) (fun i _ => s - (intOf i).toNat)
  case atStart => exact ⟨0, Nat.zero_le _, rfl, hrow0, hb0⟩
  case round =>
    obtain ⟨k, hk, rfl, hrow, hbl⟩ := hrel
    clear hrow0 hb0
    by_cases hks : k < s
    · have hcell : wr.cell? ⟨w.heap.size, s - 1 - k, none⟩ = some (.int .u8 0) := (hrow.cellAt (s - 1 - k) (by omega)).trans (putRow_get n s k hks)
      have hfree : wr.frozen? ⟨w.heap.size, s - 1 - k, none⟩ = false := hrow.frozenAt (s - 1 - k)
      have hst := hrow.stored (s - 1 - k) (.int .u8 ((n : Int) / 2 ^ (8 * k) % 256))
      have HR : Hid ((wr.setCell ⟨w.heap.size, s - 1 - k, none⟩ (.int .u8 ((n : Int) / 2 ^ (8 * k) % 256))).ownsRow w.heap.size 5 1 (.slice (some ⟨w.heap.size, 0, none⟩) s s) s (putRow n s (k + 1))) := by
        have h := hst.1
        rw [put_byte n k, putRow_set n s k hks] at h
        rw [put_byte n k]
        exact h
      have HB2 : Hid (Below w.heap.size w (wr.setCell ⟨w.heap.size, s - 1 - k, none⟩ (.int .u8 ((n : Int) / 2 ^ (8 * k) % 256)))) := hbl.setCell (Nat.le_refl _) _
      clear hst
      go_wp2
      go_roundw
      case rel => exact ⟨k + 1, by omega, by go_num, HR.out, HB2.out⟩
      case measure => simp [intOf]; omega
    · obtain rfl : k = s := by omega
      rw [putRow_full] at hrow
      go_wp2
      go_ret2
      exact ⟨rfl, hrow, hbl⟩

/-- octets.Put, all of it -/
theorem put_any (n : Nat) (size : Int) (w : World) (hn : n < 2 ^ 64) :
    Calls Try.prog 49 #[.int .u64 n, .int .i64 size] w (PutPost w (putS n size)) := by
  by_cases hs : size < 1 ∨ 8 < size
  · refine (put_arg n size w hs).mono ?_
    rintro e w' ⟨rfl, rfl⟩
    have e1 : putS n size = ([], 1) := by unfold putS; rw [if_pos hs]
    rw [e1]
    exact ⟨none, 0, rfl, Rd.nil, Below.refl _ _⟩
  · obtain ⟨s, rfl⟩ := Int.eq_ofNat_of_zero_le (show 0 ≤ size by omega)
    by_cases hlt : 8 * s < Lib.bitLen n
    · refine (put_long n s w hn (by omega) (by omega) hlt).mono ?_
      rintro e w' ⟨rfl, rfl⟩
      have e1 : putS n s = ([], 4) := by
        unfold putS
        rw [if_neg hs, Int.toNat_natCast, if_pos ((bitLen_gt n s hn).1 hlt)]
      rw [e1]
      exact ⟨none, 0, rfl, Rd.nil, Below.refl _ _⟩
    · refine (put_ok n s w hn (by omega) (by omega) hlt).mono ?_
      rintro e w' ⟨rfl, hrow, hb⟩
      have e1 : putS n s = (putL n s, 0) := by
        unfold putS
        rw [if_neg hs, Int.toNat_natCast, if_neg (fun h => hlt ((bitLen_gt n s hn).2 h))]
      rw [e1]
      exact ⟨some ⟨w.heap.size, 0, none⟩, s, by rw [putL_length], Rd.own hrow, hb⟩

end Go.Proofs.Ytjgdmkmfnkaoaaa
