/-
  A clock's words: its cells, whether two are one, which are right, what it measures. No condition.
-/
import Derived.Test.YtafpnmmkaanjaaaTwo
namespace Go.Proofs.Ytafpnmmkaanjaaa
open Go.RowKit

/-- how long to wait -/
structure Ck where
  s : Int
  d : Int
  w : Int
deriving DecidableEq
def ckA (c : Ck) : Array Value := #[.int .i64 c.s, .int .i64 c.d, .int .i64 c.w]
theorem ckE : El ckA 3 := ⟨fun _ => rfl, fun a => by simp [ckA, Value.oneCell']⟩
def boundX (n : Int) : Int := if n < 4 then 4 else if 240 < n then 240 else n
def rightX (c : Ck) : Bool := decide (4 ≤ c.w ∧ c.w ≤ 240 ∧ ((c.s = -1 ∧ c.d = -1) ∨ (0 ≤ c.s ∧ c.s < 1928 ∧ 0 ≤ c.d ∧ c.d < 964)))
def apartX (a : Int) : Int := if a < 0 then -a else a
def smoothX (c : Ck) (r : Int) : Int := if 0 ≤ c.s then c.s - c.s / 8 + r else 8 * r
def spreadX (c : Ck) (r : Int) : Int := if 0 ≤ c.s then c.d - c.d / 4 + apartX (c.s / 8 - r) else 2 * r
def waitX (s d : Int) : Int := boundX (s / 8 + if d < 1 then 1 else d)
def lidX (t : Nat) : Int := if t < 240 then (t : Int) else 240
def measX (c : Ck) (t : Nat) : Ck := ⟨smoothX c (lidX t), spreadX c (lidX t), waitX (smoothX c (lidX t)) (spreadX c (lidX t))⟩
def dblX (c : Ck) : Ck := ⟨c.s, c.d, boundX (c.w + c.w)⟩
def newX : Ck := ⟨-1, -1, 10⟩
theorem right_iff {c : Ck} : rightX c = true ↔ 4 ≤ c.w ∧ c.w ≤ 240 ∧ ((c.s = -1 ∧ c.d = -1) ∨ (0 ≤ c.s ∧ c.s < 1928 ∧ 0 ≤ c.d ∧ c.d < 964)) := decide_eq_true_iff
theorem bound_in (n : Int) : 4 ≤ boundX n ∧ boundX n ≤ 240 := by
  unfold boundX
  split
  · omega
  · split <;> omega
theorem lid_in (t : Nat) : 0 ≤ lidX t ∧ lidX t ≤ 240 := by unfold lidX; split <;> omega
theorem meas_some {c : Ck} {t : Nat} (h : rightX c = true) : 0 ≤ (measX c t).s ∧ (measX c t).s < 1928 ∧ 0 ≤ (measX c t).d ∧ (measX c t).d < 964 := by
  have := right_iff.1 h
  have hl := lid_in t
  show 0 ≤ smoothX c (lidX t) ∧ smoothX c (lidX t) < 1928 ∧ 0 ≤ spreadX c (lidX t) ∧ spreadX c (lidX t) < 964
  unfold smoothX spreadX apartX
  split
  · split <;> omega
  · omega
theorem meas_right {c : Ck} {t : Nat} (h : rightX c = true) : rightX (measX c t) = true := by
  obtain ⟨h1, h2, h3, h4⟩ := meas_some (t := t) h
  have hb := bound_in (smoothX c (lidX t) / 8 + if spreadX c (lidX t) < 1 then 1 else spreadX c (lidX t))
  exact right_iff.2 ⟨hb.1, hb.2, .inr ⟨h1, h2, h3, h4⟩⟩
theorem dbl_right {c : Ck} (h : rightX c = true) : rightX (dblX c) = true := by
  have := right_iff.1 h
  have hb := bound_in (c.w + c.w)
  exact right_iff.2 ⟨hb.1, hb.2, this.2.2⟩
theorem new_right : rightX newX = true := by decide
/-! ### whether two are one -/
theorem part_n (xs : Array Value) (off : Nat) (v : Value) (h : xs[off]? = some v) (w : World) : (part 2 xs off).run Try.prog w = .ok v w := by
  have ha : (isAgg 2).run Try.prog w = .ok false w := by kernel_rfl
  unfold part
  simp [Sem.run_bind, ha, h]
theorem eq_ck (d : Nat) (a b : Ck) (w : World) : (Op.equalIn (d + 2) 23 (.agg (ckA a)) (.agg (ckA b))).run Try.prog w = .ok (decide (a = b)) w := by
  have hfs : Try.prog.underlying 23 = some (.struct (Try.prog.fieldsOf 23)) := by
    simp only [Program.fieldsOf, Try.underlying23]
  rw [run_equalIn_struct w (d + 1) _ _ _ hfs (by kernel_rfl)]
  simp only [Program.fieldsOf, Try.underlying23]
  obtain ⟨s, q, v⟩ := a
  obtain ⟨s', q', v'⟩ := b
  have r : ∀ (x y : Int) w, (Op.equalIn (d + 1) 2 (.int .i64 x) (.int .i64 y)).run Try.prog w = .ok (decide (x = y)) w := fun x y w => by
    rw [run_equalIn_int w d _ .i64 .i64 _ _ Try.underlying2]
    congr 1
  have pa0 : ∀ w, (part 2 (ckA ⟨s, q, v⟩) 0).run Try.prog w = .ok (.int .i64 s) w := part_n _ _ _ rfl
  have pb0 : ∀ w, (part 2 (ckA ⟨s', q', v'⟩) 0).run Try.prog w = .ok (.int .i64 s') w := part_n _ _ _ rfl
  have pa1 : ∀ w, (part 2 (ckA ⟨s, q, v⟩) 1).run Try.prog w = .ok (.int .i64 q) w := part_n _ _ _ rfl
  have pb1 : ∀ w, (part 2 (ckA ⟨s', q', v'⟩) 1).run Try.prog w = .ok (.int .i64 q') w := part_n _ _ _ rfl
  have pa2 : ∀ w, (part 2 (ckA ⟨s, q, v⟩) 2).run Try.prog w = .ok (.int .i64 v) w := part_n _ _ _ rfl
  have pb2 : ∀ w, (part 2 (ckA ⟨s', q', v'⟩) 2).run Try.prog w = .ok (.int .i64 v') w := part_n _ _ _ rfl
  by_cases h0 : s = s'
  · by_cases h1 : q = q'
    · by_cases h2 : v = v'
      · subst h0 h1 h2
        simp [Op.eqFields, pa0, pa1, pa2, r]
      · subst h0 h1
        simp [Op.eqFields, pa0, pb0, pa1, pb1, pa2, pb2, r, h2]
    · subst h0
      simp [Op.eqFields, pa0, pb0, pa1, pb1, r, h1]
  · simp [Op.eqFields, pa0, pb0, r, h0]
end Go.Proofs.Ytafpnmmkaanjaaa
