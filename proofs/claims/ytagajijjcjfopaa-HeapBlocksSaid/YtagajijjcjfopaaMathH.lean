/-
  What the calls answer leaves a heap right. No program's walk, no condition.
-/
import Derived.Test.YtagajijjcjfopaaFreeH
import Derived.Test.YtagajijjcjfopaaLoadH
import Derived.Test.YtagajijjcjfopaaNewH
namespace Go.Proofs.Ytagajijjcjfopaa
open Go.RowKit

theorem whole_le (n : Nat) : n ≤ wholeN n ∧ wholeN n < n + 8 ∧ wholeN n % 8 = 0 := by unfold wholeN; omega
/-- a block laid where there is room -/
theorem room_blk {T n f i : Nat} {L : List Bk} {p : Nat × Nat} (hL : Blk T f L) (hn : 8 ≤ n) (hn8 : n % 8 = 0) (hf : f % 8 = 0) (hfT : f ≤ T) (h : roomL T n f i L = some p) :
    f ≤ p.1 ∧ p.1 % 8 = 0 ∧ p.1 + n ≤ T ∧ Blk T f (L.take (p.2 - i) ++ (p.1, n) :: L.drop (p.2 - i)) := by
  induction L generalizing f i with
  | nil =>
    unfold roomL at h
    split at h
    · cases h
      refine ⟨Nat.le_refl _, hf, by omega, ?_⟩
      rw [Nat.sub_self]
      exact ⟨Nat.le_refl _, hf, hn, hn8, by simp only; omega, trivial⟩
    · cases h
  | cons b r ih =>
    obtain ⟨h1, h2, h3, h4, h5, h6⟩ := hL
    have hi := (room_le h).1
    unfold roomL at h
    split at h
    · cases h
      refine ⟨Nat.le_refl _, hf, by simp only; omega, ?_⟩
      rw [Nat.sub_self]
      exact ⟨Nat.le_refl _, hf, hn, hn8, by simp only; omega, by simp only; omega, h2, h3, h4, h5, h6⟩
    · have hi2 := (room_le h).1
      obtain ⟨g1, g2, g3, g4⟩ := ih h6 (by omega) h5 h
      refine ⟨by omega, g2, g3, ?_⟩
      obtain ⟨k, hk⟩ : ∃ k, p.2 - i = k + 1 := ⟨p.2 - i - 1, by omega⟩
      rw [hk]
      rw [show p.2 - (i + 1) = k from by omega] at g4
      exact ⟨h1, h2, h3, h4, h5, g4⟩
theorem RightH.alloc {B : List UInt8} {L : List Bk} {D : List Bool} (h : RightH B L D) (n : Int) : RightH B (allocO B.length L n).1 D := by
  refine ⟨h.len, h.one, h.most, ?_⟩
  unfold allocO
  split
  · exact h.blk
  · split
    · exact h.blk
    · have hw := whole_le n.toNat
      cases ho : roomL B.length (wholeN n.toNat) 0 0 L with
      | none => exact h.blk
      | some p =>
        have := (room_blk h.blk (by omega) hw.2.2 rfl (Nat.zero_le _) ho).2.2.2
        exact this
theorem blk_erase {T f : Nat} {L : List Bk} (h : Blk T f L) (i : Nat) : Blk T f (L.eraseIdx i) := by
  induction L generalizing f i with
  | nil => simpa using h
  | cons b r ih =>
    obtain ⟨h1, h2, h3, h4, h5, h6⟩ := h
    cases i with
    | zero =>
      show Blk T f r
      cases r with
      | nil => trivial
      | cons c r =>
        obtain ⟨g1, g2⟩ := h6
        exact ⟨by omega, g2⟩
    | succ i => exact ⟨h1, h2, h3, h4, h5, ih h6 i⟩
theorem RightH.store {B : List UInt8} {L : List Bk} {D : List Bool} (h : RightH B L D) (x : Int) (l : List UInt8) : RightH (storeO B L D x l).1 L (storeO B L D x l).2.1 := by
  unfold storeO
  split
  · rename_i hg
    have hin := given_in h.blk (by omega) hg
    have hl := putB_length (B := B) (l := l) (a := x.toNat) (by omega)
    exact ⟨by rw [hl, markD_length]; exact h.len, by rw [markD_length]; exact h.one, by rw [markD_length]; exact h.most, by rw [hl]; exact h.blk⟩
  · exact h
theorem RightH.free {B : List UInt8} {L : List Bk} {D : List Bool} (h : RightH B L D) (x : Int) : RightH (freeO B L D x).1 (freeO B L D x).2.1 (freeO B L D x).2.2.1 := by
  unfold freeO
  split
  · exact h
  · rename_i i hi
    split
    · exact h
    · rename_i b hb
      have hbd := blk_bound h.blk b (List.mem_of_getElem? hb)
      have hl := putB_length (B := B) (l := List.replicate b.2 0) (a := b.1) (by rw [List.length_replicate]; omega)
      exact ⟨by rw [hl, markD_length]; exact h.len, by rw [markD_length]; exact h.one, by rw [markD_length]; exact h.most, by rw [hl]; exact blk_erase h.blk i⟩
theorem RightH.tell {B : List UInt8} {L : List Bk} {D : List Bool} (h : RightH B L D) (p : Int) : RightH B L (tellO B D p).1 := by
  unfold tellO
  split
  · exact ⟨by rw [List.length_set]; exact h.len, by rw [List.length_set]; exact h.one, by rw [List.length_set]; exact h.most, h.blk⟩
  · exact h
theorem RightH.hear {B : List UInt8} {L : List Bk} {D : List Bool} (h : RightH B L D) (p : Int) (l : List UInt8) : RightH (hearO B D.length p l).1 L D := by
  unfold hearO
  split
  · rename_i hp
    split
    · rename_i h64
      have := h.len
      have hl := putB_length (B := B) (l := l) (a := 64 * p.toNat) (by omega)
      exact ⟨by rw [hl]; exact h.len, h.one, h.most, by rw [hl]; exact h.blk⟩
    · exact h
  · exact h
theorem RightH.new {n : Nat} (h1 : 1 ≤ n) (h2 : n ≤ 64) : RightH (List.replicate (64 * n) 0) [] (List.replicate n false) :=
  ⟨by simp, by simpa using h1, by simpa using h2, trivial⟩
end Go.Proofs.Ytagajijjcjfopaa
