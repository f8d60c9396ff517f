/-
  heap.end, heap.whole, heap.Right, heap.room: their answers, for all heaps that can be read. No condition beyond that.
-/
import Derived.Test.YtagajijjcjfopaaCloneH
import Derived.Deep.OwnRows
namespace Go.Proofs.Ytagajijjcjfopaa
open Go.RowKit

theorem end_any (a n : Int) (w : World) (ha : 0 ≤ a) (hn : 0 ≤ n) (h : a + n ≤ 9223372036854775807) : Calls Try.prog 32 #[.agg #[.int .i64 a, .int .i64 n]] w fun e w' => e = .returned (.int .i64 (a + n)) ∧ Below w.heap.size w w' := by
  go_enter Try.func32, Try.ntmps32
  go_wp2
  go_ret
  exact ⟨rfl, (Below.refl _ _).alloc (Nat.le_refl _) _⟩
def wholeN (n : Nat) : Nat := (n + 7) / 8 * 8
theorem whole_any (n : Nat) (w : World) (hn : n ≤ 100000) : Calls Try.prog 38 #[.int .i64 (n : Int)] w fun e w' => e = .returned (.int .i64 (wholeN n : Nat)) ∧ w' = w := by
  go_enter Try.func38, Try.ntmps38
  go_wp2
  go_ret
  refine ⟨?_, rfl⟩
  unfold wholeN
  show Ending.returned (.int .i64 (((n : Int) + 8 - 1) / 8 * 8)) = _
  congr 2
  omega

/-- blocks with any numbers -/
def bkz (b : Int × Int) : List Value := [.int .i64 b.1, .int .i64 b.2]
def bksZ (Z : List (Int × Int)) : List Value := Z.flatMap bkz
theorem bksZ_length (Z : List (Int × Int)) : (bksZ Z).length = Z.length * 2 := by
  induction Z with
  | nil => rfl
  | cons b Z ih => show (bkz b ++ bksZ Z).length = _; rw [List.length_append, ih, List.length_cons]; simp only [bkz, List.length_cons, List.length_nil]; omega
theorem bksZ_drop (Z : List (Int × Int)) (i : Nat) : (bksZ Z).drop (i * 2) = bksZ (Z.drop i) := by
  induction Z generalizing i with
  | nil => simp [bksZ]
  | cons b Z ih => cases i with
    | zero => simp
    | succ i => show (bkz b ++ bksZ Z).drop _ = _; rw [show (i + 1) * 2 = (bkz b).length + i * 2 from by simp [bkz]; omega, List.drop_append, Nat.add_sub_cancel_left, ih]; simp
theorem bksZ_at (Z : List (Int × Int)) (i : Nat) (b : Int × Int) (h : Z[i]? = some b) : ((bksZ Z).drop (i * 2)).take 2 = bkz b := by
  rw [bksZ_drop, List.drop_eq_getElem?_toList_append, h]
  rfl
def zs (L : List Bk) : List (Int × Int) := L.map fun b => ((b.1 : Int), (b.2 : Int))
theorem bks_zs (L : List Bk) : bks L = bksZ (zs L) := by simp only [bks, bksZ, zs, List.flatMap_map]; rfl
theorem zs_length (L : List Bk) : (zs L).length = L.length := by simp [zs]
def I64 (z : Int) : Prop := -9223372036854775808 ≤ z ∧ z ≤ 9223372036854775807
def blkB (T : Nat) : Int → List (Int × Int) → Bool
  | _, [] => true
  | f, b :: r => decide (f ≤ b.1 ∧ b.1 % 8 = 0 ∧ 8 ≤ b.2 ∧ b.2 % 8 = 0 ∧ b.2 ≤ (T : Int) - b.1) && blkB T (b.1 + b.2) r
def rightB (nb nd : Nat) (Z : List (Int × Int)) : Bool := decide (nb % 64 = 0 ∧ 1 ≤ nb / 64 ∧ nb / 64 ≤ 64 ∧ nd = nb / 64) && blkB nb 0 Z

end Go.Proofs.Ytagajijjcjfopaa
