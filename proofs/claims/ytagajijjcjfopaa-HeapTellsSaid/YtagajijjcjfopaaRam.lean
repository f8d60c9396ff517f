/-
  Where the document's Alloc finds room: there where heap.Alloc does. No program's walk, no condition.
-/
import Derived.Test.YtagajijjcjfopaaRg
namespace Go.Proofs.Ytagajijjcjfopaa
open Go.RowKit

theorem roomB_iff {T : Nat} {L : List Bk} {a n : Nat} : roomB T L a n = true ↔ a + n ≤ T ∧ ∀ b ∈ L, ¬ (b.1 < a + n ∧ a < b.1 + b.2) := by
  unfold roomB
  simp only [Bool.and_eq_true, decide_eq_true_eq, List.all_eq_true, Bool.not_eq_true', decide_eq_false_iff_not]
theorem room_notbefore {T n f i : Nat} {L : List Bk} {p : Nat × Nat} (hL : Blk T f L) (hn : 8 ≤ n) (h : roomL T n f i L = some p) : ∀ a, f ≤ a → a < p.1 → ¬ ∀ b ∈ L, ¬ (b.1 < a + n ∧ a < b.1 + b.2) := by
  induction L generalizing f i with
  | nil =>
    unfold roomL at h
    split at h
    · cases h; intro a h1 h2; simp only at h2; omega
    · cases h
  | cons c r ih =>
    obtain ⟨h1, h2, h3, h4, h5, h6⟩ := hL
    unfold roomL at h
    split at h
    · cases h; intro a h1 h2; simp only at h2; omega
    · intro a ha hp hno
      by_cases hc : c.1 + c.2 ≤ a
      · exact ih h6 h a hc hp fun b hb => hno b (List.mem_cons_of_mem _ hb)
      · exact hno c (List.mem_cons_self ..) ⟨by omega, by omega⟩
theorem room_never {T n f i : Nat} {L : List Bk} (hL : Blk T f L) (hn : 8 ≤ n) (h : roomL T n f i L = none) : ∀ a, f ≤ a → ¬ (a + n ≤ T ∧ ∀ b ∈ L, ¬ (b.1 < a + n ∧ a < b.1 + b.2)) := by
  induction L generalizing f i with
  | nil =>
    unfold roomL at h
    split at h
    · cases h
    · intro a ha hno; omega
  | cons c r ih =>
    obtain ⟨h1, h2, h3, h4, h5, h6⟩ := hL
    unfold roomL at h
    split at h
    · cases h
    · intro a ha hno
      by_cases hc : c.1 + c.2 ≤ a
      · exact ih h6 h a hc ⟨hno.1, fun b hb => hno.2 b (List.mem_cons_of_mem _ hb)⟩
      · exact hno.2 c (List.mem_cons_self ..) ⟨by omega, by omega⟩
theorem room_behind {T n f i : Nat} {L : List Bk} {p : Nat × Nat} (hL : Blk T f L) (hn : 8 ≤ n) (h : roomL T n f i L = some p) : ∀ j b, p.2 - i ≤ j → L[j]? = some b → p.1 + n ≤ b.1 := by
  induction L generalizing f i with
  | nil => intro j b _ hb; simp at hb
  | cons c r ih =>
    obtain ⟨h1, h2, h3, h4, h5, h6⟩ := hL
    unfold roomL at h
    split at h
    · cases h
      intro j b _ hb
      cases j with
      | zero => simp at hb; subst hb; simp only; omega
      | succ j =>
        simp at hb
        have := (blk_from h6 b (List.mem_of_getElem? hb)).1
        simp only
        omega
    · intro j b hj hb
      have := (room_le h).1
      cases j with
      | zero => omega
      | succ j =>
        simp at hb
        exact ih h6 h j b (by omega) hb
theorem room_here {T m a : Nat} {L : List Bk} (hL : Blk T 0 L) (hm : 8 ≤ m) (hm8 : m % 8 = 0) (hno : ∀ j, j < a → j % 8 = 0 → roomB T L j m = false) (hq : roomB T L a m = true) :
    ∃ i, roomL T m 0 0 L = some (a, i) ∧ i ≤ L.length ∧ (∀ j b, j < i → L[j]? = some b → b.1 + b.2 ≤ a) ∧ ∀ j b, i ≤ j → L[j]? = some b → a + m ≤ b.1 := by
  have hf := roomB_iff.1 hq
  cases h : roomL T m 0 0 L with
  | none => exact absurd hf (room_never hL hm h a (Nat.zero_le _))
  | some p =>
    obtain ⟨p1, p2⟩ := p
    have hok := room_blk hL hm hm8 rfl (Nat.zero_le _) h
    have hgap := room_gap hL hm h
    have hle := (room_le h).2
    simp only at hok hgap hle
    have e : p1 = a := by
      rcases Nat.lt_trichotomy p1 a with hlt | rfl | hlt
      · have h2 : roomB T L p1 m = true := roomB_iff.2 ⟨hok.2.2.1, fun b hb hc => by have := hgap b hb; omega⟩
        rw [hno p1 hlt hok.2.1] at h2
        cases h2
      · rfl
      · exact absurd hf.2 (room_notbefore hL hm h a (Nat.zero_le _) hlt)
    subst e
    refine ⟨p2, rfl, by omega, fun j b hj hb => ?_, fun j b hj hb => ?_⟩
    · exact room_before hL hm h j b (by simpa using hj) hb
    · exact room_behind hL hm h j b (by simpa using hj) hb
theorem room_nowhere {T m a : Nat} {L : List Bk} (hL : Blk T 0 L) (hm : 8 ≤ m) (hm8 : m % 8 = 0) (hno : ∀ j, j < a → j % 8 = 0 → roomB T L j m = false) (hT : T ≤ a) : roomL T m 0 0 L = none := by
  cases h : roomL T m 0 0 L with
  | none => rfl
  | some p =>
    have hok := room_blk hL hm hm8 rfl (Nat.zero_le _) h
    have hgap := room_gap hL hm h
    have h2 : roomB T L p.1 m = true := roomB_iff.2 ⟨hok.2.2.1, fun b hb hc => by have := hgap b hb; omega⟩
    rw [hno p.1 (by omega) hok.2.1] at h2
    cases h2
/-- the blocks, the new one among them, as far as k of the old ones -/
def insL (L : List Bk) (i a m k : Nat) : List Bk := if k ≤ i then L.take k else L.take i ++ (a, m) :: (L.drop i).take (k - i)
theorem insL_zero {L : List Bk} {i a m : Nat} : insL L i a m 0 = [] := by
  unfold insL
  rw [if_pos (Nat.zero_le _), List.take_zero]
theorem insL_ahead {L : List Bk} {i a m k : Nat} {b : Bk} (h : k < i) (hb : L[k]? = some b) : insL L i a m (k + 1) = insL L i a m k ++ [b] := by
  unfold insL
  rw [if_pos (by omega), if_pos (by omega), take_snoc hb]
theorem insL_at {L : List Bk} {i a m : Nat} {b : Bk} (hb : L[i]? = some b) : insL L i a m (i + 1) = (insL L i a m i ++ [(a, m)]) ++ [b] := by
  unfold insL
  rw [if_neg (by omega), if_pos (Nat.le_refl _), Nat.add_sub_cancel_left, List.append_assoc]
  congr 1
  rw [List.cons_append, List.nil_append]
  congr 1
  have : (L.drop i)[0]? = some b := by rw [List.getElem?_drop]; exact hb
  rw [show (1 : Nat) = 0 + 1 from rfl, take_snoc this]
  rfl
theorem insL_behind {L : List Bk} {i a m k : Nat} {b : Bk} (h : i < k) (hb : L[k]? = some b) : insL L i a m (k + 1) = insL L i a m k ++ [b] := by
  unfold insL
  rw [if_neg (by omega), if_neg (by omega), List.append_assoc, List.cons_append]
  congr 2
  rw [show k + 1 - i = (k - i) + 1 from by omega]
  exact take_snoc (by rw [List.getElem?_drop, show i + (k - i) = k from by omega]; exact hb)
theorem insL_end {L : List Bk} {i a m : Nat} (h : i < L.length) : insL L i a m L.length = L.take i ++ (a, m) :: L.drop i := by
  unfold insL
  rw [if_neg (by omega), List.take_of_length_le (l := L.drop i) (by rw [List.length_drop]; exact Nat.le_refl _)]
theorem insL_last {L : List Bk} {a m : Nat} : insL L L.length a m L.length ++ [(a, m)] = L.take L.length ++ (a, m) :: L.drop L.length := by
  unfold insL
  rw [if_pos (Nat.le_refl _)]
  simp
theorem insL_len {L : List Bk} {i a m k : Nat} (hk : k ≤ L.length) (hi : i ≤ L.length) : (insL L i a m k).length ≤ k + 1 := by
  unfold insL
  split
  · simp; omega
  · simp; omega
theorem rbs_snoc (L : List Bk) (b : Bk) : rbs (L ++ [b]) = rbs L ++ rbC b := by rw [rbs_append]; simp [rbs]
/-- a block of a row, to be loaded whole -/
theorem rb_elem {w : World} {base nk c k g : Nat} {L : List Bk} {b : Bk} (h : w.ownsRow base 76 2 (.slice (some ⟨g, 0, none⟩) nk c) nk (rbs L)) (hk : L[k]? = some b) : ∀ j u, [Value.int .i64 (b.1 : Int), .int .i64 ((b.1 : Int) + (b.2 : Int))][j]? = some u → w.cell? ((⟨g, k * 2, none⟩ : Addr).add j) = some u := by
  intro j u hu
  rw [Addr.add_mid]
  refine own_cell h ?_
  have h2 := congrArg (·[j]?) (rbs_at L k b hk)
  simp only [List.getElem?_take, List.getElem?_drop] at h2
  have hj : j < 2 := (List.getElem?_eq_some_iff.1 hu).1
  rw [if_pos hj] at h2
  rw [h2]
  exact hu
end Go.Proofs.Ytagajijjcjfopaa
