/-
  A wheel's words: timers, wheels of the code's and of the document's kind, their order. No condition.
-/
import Derived.Test.YtljochpomgjjeaaTwo
namespace Go.Proofs.Ytljochpomgjjeaa
open Go.RowKit

theorem info_tm : (Try.prog.info? 53).map (fun i => (i.zero, i.size, i.bytes)) = some (some (.agg #[.int .i64 0, .int .u64 0]), 2, 16) := by kernel_rfl
theorem info_tm2 : ∃ i0, Try.prog.info? 53 = some i0 ∧ i0.zero = some (.agg #[.int .i64 0, .int .u64 0]) ∧ i0.size = 2 ∧ i0.bytes = 16 := parts_of info_tm
theorem info_in : (Try.prog.info? 3).map (fun i => (i.zero, i.size, i.bytes)) = some (some (.int .i64 0), 1, 8) := by kernel_rfl
theorem info_in1 : ∃ i0, Try.prog.info? 3 = some i0 ∧ i0.zero = some (.int .i64 0) ∧ i0.size = 1 ∧ i0.bytes = 8 := parts_of info_in
/-- when something is due -/
structure Tm where
  id : Int
  due : Nat
deriving DecidableEq
def tmA (t : Tm) : Array Value := #[.int .i64 t.id, .int .u64 (t.due : Int)]
def inA (n : Int) : Array Value := #[.int .i64 n]
theorem tmE : El tmA 2 := ⟨fun _ => rfl, fun _ => by simp [tmA, Value.oneCell']⟩
theorem inE : El inA 1 := ⟨fun _ => rfl, fun _ => by simp [inA, Value.oneCell']⟩
theorem tmA_id (t : Tm) : (tmA t)[0]? = some (.int .i64 t.id) := rfl
theorem tmA_due (t : Tm) : (tmA t)[1]? = some (.int .u64 (t.due : Int)) := rfl
abbrev TsS (w : World) (v : Value) (T : List Tm) : Prop := SlT tmA w v T
abbrev TsT (w : World) (v : Value) (T : List Tm) : Prop := TlT 53 tmA w v T
/-- a wheel's value (both kinds have the same cells): its timers read, or read in blocks of their type -/
def WhS (w : World) (v : Value) (n : Nat) (T : List Tm) : Prop := ∃ s, v = .agg #[.int .u64 (n : Int), s] ∧ TsS w s T
def WhT (w : World) (v : Value) (n : Nat) (T : List Tm) : Prop := ∃ s, v = .agg #[.int .u64 (n : Int), s] ∧ TsT w s T
theorem WhT.whs {w : World} {v : Value} {n : Nat} {T : List Tm} (h : WhT w v n T) : WhS w v n T := by
  obtain ⟨s, e, h1⟩ := h
  exact ⟨s, e, h1.slt⟩
theorem WhT.below {w w' : World} {v : Value} {n B : Nat} {T : List Tm} (h : WhT w v n T) (hb : Below B w w') (hB : w.heap.size ≤ B := by first | exact Nat.le_refl _ | simp) : WhT w' v n T := by
  obtain ⟨s, e, h1⟩ := h
  exact ⟨s, e, h1.below hb hB⟩
theorem WhS.below {w w' : World} {v : Value} {n B : Nat} {T : List Tm} (h : WhS w v n T) (hb : Below B w w') (hB : w.heap.size ≤ B := by first | exact Nat.le_refl _ | simp) : WhS w' v n T := by
  obtain ⟨s, e, h1⟩ := h
  exact ⟨s, e, h1.below hb hB⟩
def notI (id : Int) (t : Tm) : Bool := decide (t.id ≠ id)
def isDue (n : Nat) (t : Tm) : Bool := decide (t.due = n)
def notDue (n : Nat) (t : Tm) : Bool := decide (t.due ≠ n)
/-- what is due at a time, in order -/
def dueX (n : Nat) (S : List Tm) : List Int := (S.filter (isDue n)).map (·.id)
/-- the document's answers: timers in the order in which they were set -/
def setD (n : Nat) (S : List Tm) (id : Int) (after : Nat) : List Tm × Int :=
  if 4611686018427387904 < after then (S, 1) else if 64 ≤ (S.filter (notI id)).length then (S, 5) else (S.filter (notI id) ++ [⟨id, n + max after 1⟩], 0)
def someD (S : List Tm) (id : Int) : Bool := decide ((S.filter (notI id)).length < S.length)
/-- laid behind all that are due no later -/
def insT (t : Tm) (L : List Tm) : List Tm := L.takeWhile (fun x => decide (x.due ≤ t.due)) ++ t :: L.dropWhile (fun x => decide (x.due ≤ t.due))
def sortT (S : List Tm) : List Tm := S.foldl (fun L t => insT t L) []
/-- the code's answers: timers in the order in which they are due -/
def setC (n : Nat) (T : List Tm) (id : Int) (after : Nat) : List Tm × Int :=
  if 4611686018427387904 < after then (T, 1) else if 64 ≤ (T.filter (notI id)).length then (T, 5) else (insT ⟨id, n + max after 1⟩ (T.filter (notI id)), 0)
theorem filter_snoc {α : Type} {p : α → Bool} {K : List α} {i : Nat} {x : α} (h : K[i]? = some x) : (K.take (i + 1)).filter p = (K.take i).filter p ++ (if p x = true then [x] else []) := by
  have hi := (List.getElem?_eq_some_iff.1 h).1
  rw [List.take_succ_eq_append_getElem hi, List.filter_append, (List.getElem?_eq_some_iff.1 h).2]
  congr 1
  cases hp : p x <;> simp [hp]
theorem part_n64 (xs : Array Value) (off : Nat) (v : Value) (h : xs[off]? = some v) (w : World) : (part 22 xs off).run Try.prog w = .ok v w := by
  have ha : (isAgg 22).run Try.prog w = .ok false w := by kernel_rfl
  unfold part
  simp [Sem.run_bind, ha, h]
theorem part_i64 (xs : Array Value) (off : Nat) (v : Value) (h : xs[off]? = some v) (w : World) : (part 3 xs off).run Try.prog w = .ok v w := by
  have ha : (isAgg 3).run Try.prog w = .ok false w := by kernel_rfl
  unfold part
  simp [Sem.run_bind, ha, h]
theorem eq_tm (d : Nat) (a b : Tm) (w : World) : (Op.equalIn (d + 2) 53 (.agg (tmA a)) (.agg (tmA b))).run Try.prog w = .ok (decide (a = b)) w := by
  have hfs : Try.prog.underlying 53 = some (.struct (Try.prog.fieldsOf 53)) := by
    simp only [Program.fieldsOf, Try.underlying53]
  rw [run_equalIn_struct w (d + 1) _ _ _ hfs (by kernel_rfl)]
  simp only [Program.fieldsOf, Try.underlying53]
  obtain ⟨s, q⟩ := a
  obtain ⟨s', q'⟩ := b
  have r : ∀ (x y : Int) w, (Op.equalIn (d + 1) 3 (.int .i64 x) (.int .i64 y)).run Try.prog w = .ok (decide (x = y)) w := fun x y w => by
    rw [run_equalIn_int w d _ .i64 .i64 _ _ Try.underlying3]
    congr 1
  have r2 : ∀ (x y : Nat) w, (Op.equalIn (d + 1) 22 (.int .u64 (x : Int)) (.int .u64 (y : Int))).run Try.prog w = .ok (decide (x = y)) w := fun x y w => by
    rw [run_equalIn_int w d _ .u64 .u64 _ _ Try.underlying22]
    congr 1
    rw [Bool.eq_iff_iff, beq_iff_eq, decide_eq_true_iff]
    omega
  have pa0 : ∀ w, (part 3 (tmA ⟨s, q⟩) 0).run Try.prog w = .ok (.int .i64 s) w := part_i64 _ _ _ rfl
  have pb0 : ∀ w, (part 3 (tmA ⟨s', q'⟩) 0).run Try.prog w = .ok (.int .i64 s') w := part_i64 _ _ _ rfl
  have pa1 : ∀ w, (part 22 (tmA ⟨s, q⟩) 1).run Try.prog w = .ok (.int .u64 (q : Int)) w := part_n64 _ _ _ rfl
  have pb1 : ∀ w, (part 22 (tmA ⟨s', q'⟩) 1).run Try.prog w = .ok (.int .u64 (q' : Int)) w := part_n64 _ _ _ rfl
  by_cases h0 : s = s'
  · subst h0
    by_cases h1 : q = q'
    · subst h1
      simp [Op.eqFields, pa0, pa1, r, r2]
    · simp [Op.eqFields, pa0, pb0, pa1, pb1, r, r2, h1]
  · simp [Op.eqFields, pa0, pb0, r, h0]
end Go.Proofs.Ytljochpomgjjeaa
