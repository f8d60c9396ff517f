/-
  Numbers as bytes, the highest first: the plain mathematics of octets.Put and octets.Get. No program, no condition.
-/
import Derived.Lib.BitFns
import Derived.Lib.ItoaNum
import Derived.Laws.BitsAllLaws
import Derived.IntWalk
namespace Go.Proofs.Ytfifigokglmjlaa

/-- the number of bytes, the highest first -/
def getV (l : List UInt8) : Nat := l.foldl (fun n c => n * 256 + c.toNat) 0
/-- n in so many bytes, the highest first -/
def putL (n : Nat) : Nat → List UInt8
  | 0 => []
  | i + 1 => UInt8.ofNat (n / 2 ^ (8 * i)) :: putL n i
theorem putL_length (n i : Nat) : (putL n i).length = i := by
  induction i with
  | zero => rfl
  | succ i ih => simp [putL, ih]

theorem foldl_getV (l : List UInt8) : ∀ n : Nat, l.foldl (fun n c => n * 256 + c.toNat) n = n * 2 ^ (8 * l.length) + getV l := by
  induction l with
  | nil => intro n; simp [getV]
  | cons c r ih =>
    intro n
    have e : 2 ^ (8 * (r.length + 1)) = 256 * 2 ^ (8 * r.length) := by rw [show 8 * (r.length + 1) = 8 + 8 * r.length from by omega, Nat.pow_add]
    rw [List.foldl_cons, ih, List.length_cons, e]
    unfold getV
    rw [List.foldl_cons, ih (0 * 256 + c.toNat)]
    unfold getV
    rw [Nat.add_mul, Nat.mul_assoc, Nat.zero_mul, Nat.zero_add, Nat.add_assoc]
theorem getV_cons (c : UInt8) (r : List UInt8) : getV (c :: r) = c.toNat * 2 ^ (8 * r.length) + getV r := by
  have h := foldl_getV r c.toNat
  have e : getV (c :: r) = r.foldl (fun n c => n * 256 + c.toNat) c.toNat := by simp [getV]
  rw [e, h]
theorem getV_snoc (l : List UInt8) (c : UInt8) : getV (l ++ [c]) = getV l * 256 + c.toNat := by simp [getV]
theorem getV_lt (l : List UInt8) : getV l < 2 ^ (8 * l.length) := by
  induction l with
  | nil => simp [getV]
  | cons c r ih =>
    rw [getV_cons, List.length_cons, show 8 * (r.length + 1) = 8 + 8 * r.length from by omega, Nat.pow_add]
    have := c.toNat_lt
    have h2 : c.toNat * 2 ^ (8 * r.length) ≤ 255 * 2 ^ (8 * r.length) := Nat.mul_le_mul_right _ (by omega)
    have h3 : 2 ^ 8 * 2 ^ (8 * r.length) = 255 * 2 ^ (8 * r.length) + 2 ^ (8 * r.length) := by omega
    omega
theorem getV_putL (n i : Nat) : getV (putL n i) = n % 2 ^ (8 * i) := by
  induction i with
  | zero => simp [putL, getV, Nat.mod_one]
  | succ i ih =>
    rw [putL, getV_cons, putL_length, ih, UInt8.toNat_ofNat', show 8 * (i + 1) = 8 * i + 8 from by omega, Nat.pow_add, Nat.mod_mul]
    rw [Nat.mul_comm (2 ^ (8 * i)), Nat.add_comm]
theorem getV_small (l : List UInt8) (h : l.length ≤ 8) : getV l < 18446744073709551616 := by
  have h1 := getV_lt l
  have h2 : 2 ^ (8 * l.length) ≤ 2 ^ 64 := Nat.pow_le_pow_right (by omega) (by omega)
  exact Nat.lt_of_lt_of_le h1 h2

/-- so many bytes are too few -/
theorem bitLen_gt (n s : Nat) (hn : n < 2 ^ 64) : 8 * s < Lib.bitLen n ↔ 2 ^ (8 * s) ≤ n := by
  constructor
  · intro h
    refine Nat.le_of_not_lt fun hlt => ?_
    have h2 := Lib.bitLenAux_le 64 n (8 * s) hlt
    unfold Lib.bitLen at h
    omega
  · intro h
    refine Nat.lt_of_not_le fun hle => ?_
    have h0 : n ≠ 0 := by
      have : 0 < 2 ^ (8 * s) := Nat.two_pow_pos _
      omega
    have hb := (Lib.bitLenAux_bounds 64 n hn h0).2.2
    have h3 : 2 ^ Lib.bitLenAux 64 n ≤ 2 ^ (8 * s) := Nat.pow_le_pow_right (by omega) hle
    omega
theorem bitLen_64 (n : Nat) (hn : n < 2 ^ 64) : Lib.bitLen n ≤ 64 := Lib.bitLen_le n 64 (Nat.le_refl _) hn
theorem or_byte (g c : Nat) (hc : c < 256) : g * 256 ||| c = g * 256 + c := by
  have h := Nat.two_pow_add_eq_or_of_lt (i := 8) (b := c) (by omega) g
  rw [show (2 : Nat) ^ 8 = 256 from rfl] at h
  rw [Nat.mul_comm g 256, h]
theorem shl_or (g c : Nat) (hg : g * 256 + 255 < 18446744073709551616) (hc : c < 256) :
    bits .or .u64 (IntKind.u64.wrap ((g : Int) * 256)) (IntKind.u64.wrap (c : Int)) = ((g * 256 + c : Nat) : Int) := by
  have e1 : IntKind.u64.wrap ((g : Int) * 256) = ((g * 256 : Nat) : Int) := (IntWalk.u64_in _ ⟨by omega, by omega⟩).trans (Int.natCast_mul g 256).symm
  have e2 : IntKind.u64.wrap (c : Int) = (c : Int) := IntWalk.u64_in _ ⟨by omega, by omega⟩
  rw [e1, e2, u64_or _ _ (Int.natCast_nonneg _) (by omega) (Int.natCast_nonneg _) (by omega), Int.toNat_natCast, Int.toNat_natCast, or_byte g c hc]
/-- one byte more of at most eight -/
theorem getV_step (l : List UInt8) (k : Nat) (hl : l.length ≤ 8) (hk : k < l.length) :
    bits .or .u64 (IntKind.u64.wrap ((getV (l.take k) : Int) * 256)) (IntKind.u64.wrap (l[k].toNat : Int)) = ((getV (l.take (k + 1)) : Nat) : Int) := by
  have e : l.take (k + 1) = l.take k ++ [l[k]] := by rw [List.take_succ_eq_append_getElem hk]
  have hlt := getV_lt (l.take k)
  have hk7 : (l.take k).length = k := by rw [List.length_take]; omega
  have hp : 2 ^ (8 * (l.take k).length) ≤ 2 ^ 56 := Nat.pow_le_pow_right (by omega) (by omega)
  have hp2 : (2 : Nat) ^ 56 = 72057594037927936 := rfl
  have hc : l[k].toNat < 256 := l[k].toNat_lt
  rw [shl_or _ _ (by omega) hc, e, getV_snoc]
end Go.Proofs.Ytfifigokglmjlaa
