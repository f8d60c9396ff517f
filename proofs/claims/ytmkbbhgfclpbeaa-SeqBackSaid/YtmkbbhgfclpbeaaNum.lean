/-
  Numbers that go round: the plain mathematics of seq. No program, no condition.
-/
import Derived.Lib.Hide
import Derived.IntWalk
namespace Go.Proofs.Ytmkbbhgfclpbeaa

/-- so many behind -/
def addS (a n : Int) : Int := (a + n) % 4294967296
/-- how far behind -/
def diffS (a b : Int) : Int := (a - b + 2147483648) % 4294967296 - 2147483648
/-- one of so many -/
def inS (a f n : Int) : Bool := decide (0 < n) && decide ((a - f) % 4294967296 < n)
/-- the one that lies behind -/
def maxS (a b : Int) : Int := if diffS a b < 0 then b else a
/-- a piece touches a window -/
def fitsS (a n f w : Int) : Bool :=
  if 0 < n then decide (0 < w) && (inS a f w || inS f a n) else if 0 < w then inS a f w else a == f

theorem addS_ge (a n : Int) : 0 ≤ addS a n := by unfold addS; omega
theorem addS_le (a n : Int) : addS a n ≤ 4294967295 := by unfold addS; omega
theorem wrap_add (a n : Int) : (a + n % 4294967296) % 4294967296 = addS a n := by unfold addS; omega
theorem wrap_diff (a b : Int) : RowKit.wrap64 (RowKit.wrap32 ((a - b) % 4294967296)) = diffS a b := by
  unfold diffS RowKit.wrap64 RowKit.wrap32; omega
theorem inS_pos (a f n : Int) (h : 0 < n) : inS a f n = decide ((a - f) % 4294967296 < n) := by unfold inS; simp [h]
theorem inS_neg (a f n : Int) (h : ¬ 0 < n) : inS a f n = false := by unfold inS; simp [h]

theorem beqT {a b : Int} (h : a = b) : (a == b) = true := by simp [h]
theorem beqF {a b : Int} (h : a ≠ b) : (a == b) = false := by simp [h]
theorem bneT {a b : Int} (h : a ≠ b) : (a != b) = true := by simp [h]
theorem bneF {a b : Int} (h : a = b) : (a != b) = false := by simp [h]
end Go.Proofs.Ytmkbbhgfclpbeaa
