/-
  The document's own answers for numbers, as the statements have them (caravelref01.Put, Get): they are the plain functions of the contracts. Every number and size; every text.
-/
import Derived.Test.YtclnmihcjkbopaaPut
import Derived.Test.YtclnmihcjkbopaaGet
namespace Go.Proofs.Ytclnmihcjkbopaa
open Go.RowKit

/-- a text of bytes -/
abbrev txt (l : List UInt8) : Value := .string ⟨l.toArray⟩

theorem run_one (w : World) (b : UInt8) : (convert 23 9 (.slice (some ⟨w.heap.size, 0, none⟩) 1 1)).run Try.prog (w.alloc (.cells #[.int .u8 (b.toNat : Int)] 5)) = .ok (.string ⟨#[b]⟩) (w.alloc (.cells #[.int .u8 (b.toNat : Int)] 5)) :=
  run_text (P := Try.prog) (l := [b]) _ 23 9 5 1 Try.underlying23 Try.underlying5 Try.underlying9 (rd_new w (cells [b]) 5 (0, 0))
theorem byte_mod (m : Nat) : (m : Int) % 256 = ((UInt8.ofNat m).toNat : Int) := by
  rw [UInt8.toNat_ofNat', show (2 : Nat) ^ 8 = 256 from rfl, Int.natCast_emod]
  rfl

theorem ba_cons (b : UInt8) (l : List UInt8) : (⟨#[b]⟩ : ByteArray) ++ ⟨l.toArray⟩ = ⟨(b :: l).toArray⟩ := by
  apply ByteArray.ext
  simp

theorem getV_add (l : List UInt8) (k : Nat) (hl : l.length ≤ 8) (hk : k < l.length) :
    IntKind.u64.wrap (IntKind.u64.wrap ((getV (l.take k) : Int) * 256) + IntKind.u64.wrap ((l[k].toNat : Nat) : Int)) = ((getV (l.take (k + 1)) : Nat) : Int) := by
  have e : l.take (k + 1) = l.take k ++ [l[k]] := by rw [List.take_succ_eq_append_getElem hk]
  have hlt := getV_lt (l.take k)
  have hk7 : (l.take k).length = k := by rw [List.length_take]; omega
  have hp : 2 ^ (8 * (l.take k).length) ≤ 2 ^ 56 := Nat.pow_le_pow_right (by omega) (by omega)
  have hp2 : (2 : Nat) ^ 56 = 72057594037927936 := rfl
  have hc : l[k].toNat < 256 := l[k].toNat_lt
  generalize l[k] = x at *
  rw [e, getV_snoc]
  generalize getV (l.take k) = g at *
  rw [IntWalk.u64_in ((g : Int) * 256) ⟨by omega, by omega⟩, IntWalk.u64_in (x.toNat : Int) ⟨by omega, by omega⟩, IntWalk.u64_in _ ⟨by omega, by omega⟩]
  omega

theorem refput_arg (n : Nat) (size : Int) (w : World) (hs : size < 1 ∨ 8 < size) :
    Calls Try.prog 10 #[.int .u64 n, .int .i64 size] w fun e w' => e = .returned (.tuple #[txt [], .int .i64 1]) ∧ Below w.heap.size w w' := by
  rcases hs with hs | hs
  all_goals
    go_enter Try.func10, Try.ntmps10
    go_wp2
    go_ret2
    exact ⟨rfl, Below.refl _ _⟩

set_option maxHeartbeats 400000 in
theorem refput_loop (n s : Nat) (w : World) (h1 : 1 ≤ s) (h2 : s ≤ 8) (hn : n < 2 ^ 64) :
    Calls Try.prog 10 #[.int .u64 n, .int .i64 s] w fun e w' => e = .returned (.tuple #[txt (putS n s).1, .int .i64 (putS n s).2]) ∧ Below w.heap.size w w' := by
  go_enter Try.func10, Try.ntmps10
  go_wp2
  go_loopw [0, 6, 7] (fun m t i wr => ∃ k : Nat, k ≤ s ∧ i = .int .i64 k ∧ m = .int .u64 ((n / 2 ^ (8 * k) : Nat) : Int) ∧ t = txt (putL n k) ∧ Below w.heap.size w wr) (fun _ _ i _ => s - (intOf i).toNat)
  case atStart => exact ⟨0, Nat.zero_le _, rfl, by simp, rfl, Below.refl _ _⟩
  case round =>
    obtain ⟨k, hk, rfl, rfl, rfl, hbl⟩ := hrel
    obtain ⟨m, hm⟩ : ∃ m, n / 2 ^ (8 * k) = m := ⟨_, rfl⟩
    rw [hm]
    have HM := Lib.hid hm
    clear hm
    by_cases hks : k < s
    · have hcv : (convert 23 9 (.slice (some ⟨wr.heap.size, 0, none⟩) 1 1)).run Try.prog (wr.alloc (.cells #[.int .u8 ((m : Int) % 256)] 5)) = .ok (.string ⟨#[UInt8.ofNat m]⟩) (wr.alloc (.cells #[.int .u8 ((m : Int) % 256)] 5)) := by
        rw [byte_mod m]
        exact run_one wr (UInt8.ofNat m)
      have hpl : (putL n k).length = k := putL_length n k
      have hmn : m ≤ n := by rw [← HM.out]; exact Nat.div_le_self _ _
      have HM2 : Hid (Value.int .u64 (IntKind.u64.wrap ((m : Int) / 256)) = .int .u64 ((n / 2 ^ (8 * (k + 1)) : Nat) : Int)) := by
        show _ = _
        rw [IntWalk.u64_in _ ⟨by omega, by omega⟩, show 8 * (k + 1) = 8 * k + 8 from by omega, Nat.pow_add, ← Nat.div_div_eq_div_mul, HM.out, Int.natCast_ediv]
        rfl
      have HT : Hid (Value.string (⟨#[UInt8.ofNat m]⟩ ++ ⟨(putL n k).toArray⟩) = txt (putL n (k + 1))) := by
        show _ = _
        rw [putL, HM.out]
        exact congrArg Value.string (ba_cons _ _)
      have HB : Hid (Below w.heap.size w (wr.alloc (.cells #[.int .u8 ((m : Int) % 256)] 5))) := hbl.alloc hbl.size _
      clear hmn
      go_wp2
      go_roundw
      case rel => exact ⟨k + 1, by omega, by go_num, HM2.out, HT.out, HB.out⟩
      case measure => simp [intOf]; omega
    · obtain rfl : k = s := by omega
      have hs0 : ¬ ((k : Int) < 1 ∨ 8 < (k : Int)) := by omega
      by_cases hm0 : m = 0
      · have HP : Hid (putS n k = (putL n k, 0)) := by
          show _ = _
          unfold putS
          rw [if_neg hs0, Int.toNat_natCast, if_neg]
          have h := HM.out
          rw [hm0, Nat.div_eq_zero_iff] at h
          have := Nat.two_pow_pos (8 * k)
          omega
        have hb1 : ((m : Int) != 0) = false := by simp [hm0]
        have hb2 : ((m : Int) == 0) = true := by simp [hm0]
        clear hm0 hs0
        go_wp2
        go_ret2
        exact ⟨by rw [HP.out]; rfl, hbl⟩
      · have HP : Hid (putS n k = ([], 4)) := by
          show _ = _
          unfold putS
          rw [if_neg hs0, Int.toNat_natCast, if_pos]
          have h := HM.out
          refine Nat.le_of_not_lt fun hlt => hm0 ?_
          rw [← h, Nat.div_eq_of_lt hlt]
        have hb1 : ((m : Int) != 0) = true := by simp [hm0]
        have hb2 : ((m : Int) == 0) = false := by simp [hm0]
        clear hm0 hs0
        go_wp2
        go_ret2
        exact ⟨by rw [HP.out]; rfl, hbl⟩

/-- the document's Put -/
theorem refput_any (n : Nat) (size : Int) (w : World) (hn : n < 2 ^ 64) :
    Calls Try.prog 10 #[.int .u64 n, .int .i64 size] w fun e w' => e = .returned (.tuple #[txt (putS n size).1, .int .i64 (putS n size).2]) ∧ Below w.heap.size w w' := by
  by_cases hs : size < 1 ∨ 8 < size
  · have e1 : putS n size = ([], 1) := by unfold putS; rw [if_pos hs]
    rw [e1]
    exact refput_arg n size w hs
  · obtain ⟨s, rfl⟩ := Int.eq_ofNat_of_zero_le (show 0 ≤ size by omega)
    exact refput_loop n s w (by omega) (by omega) hn

theorem refget_long (l : List UInt8) (w : World) (h : 8 < l.length) (hm : l.length ≤ maxLen) :
    Calls Try.prog 12 #[txt l] w fun e w' => e = .returned (.tuple #[.int .u64 0, .int .i64 4]) ∧ w = w' := by
  unfold maxLen at hm
  go_enter Try.func12, Try.ntmps12
  go_wp2
  go_ret2
  exact ⟨rfl, rfl⟩

set_option maxHeartbeats 400000 in
theorem refget_ok (l : List UInt8) (w : World) (hl : l.length ≤ 8) :
    Calls Try.prog 12 #[txt l] w fun e w' => e = .returned (.tuple #[.int .u64 (getV l), .int .i64 0]) ∧ w = w' := by
  go_enter Try.func12, Try.ntmps12
  go_wp2
  go_loop [4, 5] (fun n i => ∃ k : Nat, k ≤ l.length ∧ i = .int .i64 k ∧ n = .int .u64 (getV (l.take k))) (fun _ i => l.length - (intOf i).toNat)
  case atStart => exact ⟨0, Nat.zero_le _, rfl, rfl⟩
  case round =>
    obtain ⟨k, hk, rfl, rfl⟩ := hrel
    by_cases hks : k < l.length
    · have HS := Lib.hid (getV_add l k hl hks)
      go_wp2
      go_round
      case rel => exact ⟨k + 1, by omega, by go_num, congrArg (Value.int .u64) HS.out⟩
      case measure => simp [intOf]; omega
    · obtain rfl : k = l.length := by omega
      go_wp2
      go_ret2
      exact ⟨by simp, rfl⟩

/-- the document's Get -/
theorem refget_any (l : List UInt8) (w : World) (hm : l.length ≤ maxLen) :
    Calls Try.prog 12 #[txt l] w fun e w' => e = .returned (.tuple #[.int .u64 (getS l).1, .int .i64 (getS l).2]) ∧ w = w' := by
  unfold getS
  by_cases h8 : 8 < l.length
  · rw [if_pos h8]
    exact refget_long l w h8 hm
  · rw [if_neg h8]
    exact refget_ok l w (by omega)
end Go.Proofs.Ytclnmihcjkbopaa
