/-
  Numbers that go round, for the layers that stand on seq: what seq's and the document's Add and Diff answer. Every number; nothing turns.
-/
import Derived.Test.YtebflcpoecolbaaMem
import Derived.Lib.Hide
import Derived.IntWalk
import Derived.WalkKit
import Derived.WalkLawsBesides
namespace Go.Proofs.Ytebflcpoecolbaa
open Go.RowKit

def U32 (z : Int) : Prop := 0 ≤ z ∧ z ≤ 4294967295
/-- bytes as a text -/
def txtV (l : List UInt8) : Value := .string ⟨l.toArray⟩
theorem txt_size (l : List UInt8) : (⟨l.toArray⟩ : ByteArray).size = l.length := by simp [ByteArray.size]
theorem txt_add (a b : List UInt8) : (⟨a.toArray⟩ : ByteArray) ++ ⟨b.toArray⟩ = ⟨(a ++ b).toArray⟩ := by
  apply ByteArray.ext
  simp
/-- so many behind -/
def addS (a n : Int) : Int := (a + n) % 4294967296
/-- how far behind -/
def diffS (a b : Int) : Int := (a - b + 2147483648) % 4294967296 - 2147483648
theorem addS_ge (a n : Int) : 0 ≤ addS a n := by unfold addS; omega
theorem addS_le (a n : Int) : addS a n ≤ 4294967295 := by unfold addS; omega
theorem wrap_add (a n : Int) : (a + n % 4294967296) % 4294967296 = addS a n := by unfold addS; omega
theorem wrap_diff (a b : Int) : RowKit.wrap64 (RowKit.wrap32 ((a - b) % 4294967296)) = diffS a b := by
  unfold diffS RowKit.wrap64 RowKit.wrap32; omega
theorem seqadd_any (a n : Int) (w : World) : Calls Try.prog 32 #[.int .u32 a, .int .i64 n] w fun e w' => e = .returned (.int .u32 (addS a n)) ∧ w = w' := by
  go_enter Try.func32, Try.ntmps32
  go_wp2
  go_ret
  exact ⟨congrArg (fun z => Ending.returned (.int .u32 z)) (wrap_add a n), rfl⟩
theorem seqdiff_any (a b : Int) (w : World) : Calls Try.prog 33 #[.int .u32 a, .int .u32 b] w fun e w' => e = .returned (.int .i64 (diffS a b)) ∧ w = w' := by
  go_enter Try.func33, Try.ntmps33
  go_wp2
  go_ret
  exact ⟨congrArg (fun z => Ending.returned (.int .i64 z)) (wrap_diff a b), rfl⟩
theorem tmod_neg (n : Int) (h : n < 0) : -4294967296 < n.tmod 4294967296 ∧ n.tmod 4294967296 ≤ 0 ∧ (n.tmod 4294967296 = n % 4294967296 ∨ n.tmod 4294967296 + 4294967296 = n % 4294967296) := by
  have e : n.tmod 4294967296 = -((-n) % 4294967296) := by
    rw [← Int.tmod_eq_emod_of_nonneg (by omega), Int.neg_tmod, Int.neg_neg]
  rw [e]
  omega
theorem sqmod_any (n : Int) (w : World) (h1 : -9223372036854775808 ≤ n) (h2 : n ≤ 9223372036854775807) :
    Calls Try.prog 35 #[.int .i64 n] w fun e w' => e = .returned (.int .i64 (n % 4294967296)) ∧ w = w' := by
  by_cases h0 : 0 ≤ n
  · have h3 : 0 ≤ n % 4294967296 := by omega
    go_enter Try.func35, Try.ntmps35
    go_wp2
    go_ret
    exact ⟨rfl, rfl⟩
  · obtain ⟨ha, hb, hc⟩ := tmod_neg n (by omega)
    by_cases hz : n.tmod 4294967296 < 0
    · have he : n.tmod 4294967296 + 4294967296 = n % 4294967296 := by omega
      rw [← he]
      clear hc he
      go_enter Try.func35, Try.ntmps35
      go_wp2
      go_ret
      exact ⟨rfl, rfl⟩
    · have he : n.tmod 4294967296 = n % 4294967296 := by omega
      rw [← he]
      clear hc he
      have hz' : 0 ≤ n.tmod 4294967296 := by omega
      go_enter Try.func35, Try.ntmps35
      go_wp2
      go_ret
      exact ⟨rfl, rfl⟩
theorem sqrefadd_any (a n : Int) (w : World) (h0 : 0 ≤ a) (h1 : a ≤ 4294967295) (h2 : -9223372036854775808 ≤ n) (h3 : n ≤ 9223372036854775807) :
    Calls Try.prog 29 #[.int .u32 a, .int .i64 n] w fun e w' => e = .returned (.int .u32 (addS a n)) ∧ w = w' := by
  by_cases hn : 0 ≤ n
  · have e : (a + n % 4294967296) % 4294967296 = addS a n := wrap_add a n
    have e2 : (addS a n) % 4294967296 = addS a n := by unfold addS; omega
    have E := Lib.hid e
    have E2 := Lib.hid e2
    clear e e2
    go_enter Try.func29, Try.ntmps29
    go_wp2_with fail
    refine (sqmod_any _ _ (by omega) (by omega)).mono ?_
    rintro e w1 ⟨rfl, rfl⟩
    rw [E.out]
    go_wp2
    go_ret
    exact ⟨congrArg (fun z => Ending.returned (.int .u32 z)) E2.out, rfl⟩
  · obtain ⟨ha, hb, hc⟩ := tmod_neg n (by omega)
    have e : (a + n.tmod 4294967296) % 4294967296 = addS a n := by unfold addS; omega
    have e2 : (addS a n) % 4294967296 = addS a n := by unfold addS; omega
    have E := Lib.hid e
    have E2 := Lib.hid e2
    clear e e2 hc
    go_enter Try.func29, Try.ntmps29
    go_wp2_with fail
    refine (sqmod_any _ _ (by omega) (by omega)).mono ?_
    rintro e w1 ⟨rfl, rfl⟩
    rw [E.out]
    go_wp2
    go_ret
    exact ⟨congrArg (fun z => Ending.returned (.int .u32 z)) E2.out, rfl⟩
theorem sqrefdiff_any (a b : Int) (w : World) (h0 : 0 ≤ a) (h1 : a ≤ 4294967295) (h2 : 0 ≤ b) (h3 : b ≤ 4294967295) :
    Calls Try.prog 34 #[.int .u32 a, .int .u32 b] w fun e w' => e = .returned (.int .i64 (diffS a b)) ∧ w = w' := by
  obtain ⟨r, hr⟩ : ∃ r, (a - b) % 4294967296 = r := ⟨_, rfl⟩
  have hb : 0 ≤ r ∧ r ≤ 4294967295 := by omega
  have he : (r < 2147483648 ∧ diffS a b = r) ∨ (2147483648 ≤ r ∧ diffS a b = r - 4294967296) := by unfold diffS; omega
  have HR := Lib.hid hr
  clear hr
  rcases he with ⟨hz, he⟩ | ⟨hz, he⟩
  all_goals
    rw [he]
    clear he
    go_enter Try.func34, Try.ntmps34
    go_wp2_with fail
    refine (sqmod_any _ _ (by omega) (by omega)).mono ?_
    rintro e w1 ⟨rfl, rfl⟩
    rw [HR.out]
    go_wp2
    go_ret
    exact ⟨rfl, rfl⟩
end Go.Proofs.Ytebflcpoecolbaa
