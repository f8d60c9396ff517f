/-
  octets.Get(b): ErrLong of more than eight bytes, else their number, the highest first. Every b whose cells can be read.
-/
import Derived.Test.YtfifigokglmjlaaMem
import Derived.Test.YtfifigokglmjlaaNum
namespace Go.Proofs.Ytfifigokglmjlaa
open Go.RowKit

theorem get_long (A : Option Addr) (L c : Nat) (w : World) (h : 8 < L) (hm : L ≤ maxLen) :
    Calls Try.prog 39 #[.slice A L c] w fun e w' => e = .returned (.tuple #[.int .u64 0, .int .i64 4]) ∧ w = w' := by
  unfold maxLen at hm
  go_enter Try.func39, Try.ntmps39
  go_wp2
  go_ret2
  exact ⟨rfl, rfl⟩

theorem get_none (c : Nat) (w : World) :
    Calls Try.prog 39 #[.slice none 0 c] w fun e w' => e = .returned (.tuple #[.int .u64 0, .int .i64 0]) ∧ w = w' := by
  go_enter Try.func39, Try.ntmps39
  go_wp2
  refine wp_loop_rounds 1 ?_
  rw [rounds_succ]
  go_wp2
  go_ret2
  exact ⟨rfl, rfl⟩

set_option maxHeartbeats 400000 in
theorem get_ok (ad : Addr) (l : List UInt8) (c lo hi : Nat) (w : World) (h : Rd w lo hi (some ad) (cells l)) (hl : l.length ≤ 8) :
    Calls Try.prog 39 #[.slice (some ad) l.length c] w fun e w' => e = .returned (.tuple #[.int .u64 (getV l), .int .i64 0]) ∧ w = w' := by
  go_enter Try.func39, Try.ntmps39
  go_wp2
  go_loop [4, 12] (fun n i => ∃ k : Nat, k ≤ l.length ∧ i = .int .i64 k ∧ n = .int .u64 (getV (l.take k))) (fun _ i => l.length - (intOf i).toNat)
  case atStart => exact ⟨0, Nat.zero_le _, rfl, rfl⟩
  case round =>
    obtain ⟨k, hk, rfl, rfl⟩ := hrel
    by_cases hks : k < l.length
    · have hcell : w.cell? (ad.add k) = some (.int .u8 (l[k].toNat : Int)) := by
        obtain ⟨ad', e, hc⟩ := h.byte hks
        cases e
        exact hc
      have HS := Lib.hid (getV_step l k hl hks)
      go_wp2
      go_round
      case rel => exact ⟨k + 1, by omega, by go_num, by rw [HS.out]⟩
      case measure => simp [intOf]; omega
    · obtain rfl : k = l.length := by omega
      have HT := Lib.hid (List.take_length (l := l))
      go_wp2
      go_ret2
      exact ⟨by simp, rfl⟩

/-- what Get answers -/
def getS (l : List UInt8) : Nat × Int := if 8 < l.length then (0, 4) else (getV l, 0)

/-- octets.Get, all of it -/
theorem get_any (A : Option Addr) (l : List UInt8) (c lo hi : Nat) (w : World) (h : Rd w lo hi A (cells l)) (hm : l.length ≤ maxLen) :
    Calls Try.prog 39 #[.slice A l.length c] w fun e w' => e = .returned (.tuple #[.int .u64 (getS l).1, .int .i64 (getS l).2]) ∧ w = w' := by
  unfold getS
  by_cases h8 : 8 < l.length
  · rw [if_pos h8]
    exact get_long A l.length c w h8 hm
  · rw [if_neg h8]
    rcases A with _ | ad
    · have e : l = [] := by
        rcases l with _ | ⟨x, r⟩
        · rfl
        · obtain ⟨ad, e, _⟩ := h.byte (k := 0) (by simp)
          cases e
      subst e
      exact get_none c w
    · exact get_ok ad l c lo hi w h (by omega)
end Go.Proofs.Ytfifigokglmjlaa
