/-
  The Internet's sum: the plain mathematics of cksum. No program, no condition.
-/
import Derived.Lib.Hide
namespace Go.Proofs.Ytjgdmkmfnkaoaaa

/-- what bytes are worth, the first one of a word the higher -/
def tot : Bool → List UInt8 → Nat
  | _, [] => 0
  | true, c :: r => 256 * c.toNat + tot false r
  | false, c :: r => c.toNat + tot true r
/-- the bytes make whole words -/
def par (l : List UInt8) : Bool := l.length % 2 == 0
/-- a sum folded to a word -/
def fold16 (n : Nat) : Nat := if n = 0 then 0 else if n % 65535 = 0 then 65535 else n % 65535
/-- the sum of two words -/
def add16 (a b : Nat) : Nat := if 65535 < a + b then a + b - 65535 else a + b
/-- the sum of bytes -/
def sumL (l : List UInt8) : Nat := fold16 (tot true l)

theorem par_cons (c : UInt8) (l : List UInt8) : par (c :: l) = !par l := by
  unfold par
  rw [List.length_cons]
  rcases Nat.mod_two_eq_zero_or_one l.length with h | h
  · rw [h, show (l.length + 1) % 2 = 1 from by omega]; rfl
  · rw [h, show (l.length + 1) % 2 = 0 from by omega]; rfl
theorem par_append (l m : List UInt8) : par (l ++ m) = (par l == par m) := by
  induction l with
  | nil => simp [par]
  | cons c r ih => rw [List.cons_append, par_cons, par_cons, ih]; cases par r <;> cases par m <;> rfl
theorem tot_append (l m : List UInt8) : ∀ b, tot b (l ++ m) = tot b l + tot (b == par l) m := by
  induction l with
  | nil => intro b; cases b <;> simp [tot, par]
  | cons c r ih =>
    intro b
    rw [List.cons_append, par_cons]
    cases b
    · show c.toNat + tot true (r ++ m) = c.toNat + tot true r + _
      rw [ih]; cases par r <;> simp [Nat.add_assoc]
    · show 256 * c.toNat + tot false (r ++ m) = 256 * c.toNat + tot false r + _
      rw [ih]; cases par r <;> simp [Nat.add_assoc]
theorem tot_even (l m : List UInt8) (h : par l = true) : tot true (l ++ m) = tot true l + tot true m := by rw [tot_append, h]; rfl
theorem fold16_le (n : Nat) : fold16 n ≤ 65535 := by unfold fold16; split <;> (try split) <;> omega
theorem add16_le (a b : Nat) (ha : a ≤ 65535) (hb : b ≤ 65535) : add16 a b ≤ 65535 := by unfold add16; split <;> omega
theorem sumL_le (l : List UInt8) : sumL l ≤ 65535 := fold16_le _
theorem fold16_small (n : Nat) (h : n ≤ 65535) : fold16 n = n := by unfold fold16; split <;> (try split) <;> omega
theorem fold16_zero (n : Nat) : fold16 n = 0 ↔ n = 0 := by unfold fold16; split <;> (try split) <;> omega
theorem add16_fold (a b : Nat) : add16 (fold16 a) (fold16 b) = fold16 (a + b) := by
  unfold add16 fold16
  repeat' split
  all_goals omega
theorem add16_word (a b : Nat) (hb : b ≤ 65535) : add16 (fold16 a) b = fold16 (a + b) := by rw [← add16_fold, fold16_small b hb]
theorem sumL_hi (l : List UInt8) (c : UInt8) (h : par l = true) : sumL (l ++ [c]) = add16 (sumL l) (256 * c.toNat) := by
  unfold sumL
  rw [add16_word _ _ (by have := c.toNat_lt; omega), tot_append, h]
  rfl
theorem sumL_lo (l : List UInt8) (c : UInt8) (h : par l = false) : sumL (l ++ [c]) = add16 (sumL l) c.toNat := by
  unfold sumL
  rw [add16_word _ _ (by have := c.toNat_lt; omega), tot_append, h]
  rfl
theorem par_snoc (l : List UInt8) (c : UInt8) : par (l ++ [c]) = !par l := by
  rw [par_append]
  cases par l <;> rfl
theorem tot_le (l : List UInt8) : ∀ b, tot b l ≤ 65280 * l.length := by
  induction l with
  | nil => intro b; cases b <;> simp [tot]
  | cons c r ih =>
    intro b
    have := c.toNat_lt
    cases b
    · have := ih true; simp only [tot, List.length_cons]; omega
    · have := ih false; simp only [tot, List.length_cons]; omega

theorem beqT {a b : Int} (h : a = b) : (a == b) = true := by simp [h]
theorem beqF {a b : Int} (h : a ≠ b) : (a == b) = false := by simp [h]
theorem bneT {a b : Int} (h : a ≠ b) : (a != b) = true := by simp [h]
theorem bneF {a b : Int} (h : a = b) : (a != b) = false := by simp [h]
end Go.Proofs.Ytjgdmkmfnkaoaaa
