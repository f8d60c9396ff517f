/-
  BridgePlays's mathematics: the code's answer by what it knows, and the document's by all that was seen. No program's walk, no condition.
-/
import Derived.Test.YtecbelnmdimnkaaRwB
import Derived.Test.YtecbelnmdimnkaaFaM
namespace Go.Proofs.Ytecbelnmdimnkaa
open Go.RowKit

/-- no card of the group's kind was seen -/
def Even (S : List Ln) : Prop := ∀ l ∈ S, l.m.x0.toNat % 2 = 0
theorem kf_sub {S : List Ln} {l : Ln} (h : l ∈ KF S) : l ∈ S := List.mem_reverse.1 (ddf_mem (List.mem_of_mem_take (kf_mem.1 h)))
theorem find_true {K : List Ln} {a : Mac} (h : (findX K a).2 = true) : ∃ l ∈ K, l.m = a ∧ (findX K a).1 = l.p := by
  unfold findX at *
  cases hq : K.find? (isM a) with
  | none => rw [hq] at h; cases h
  | some l => exact ⟨l, List.mem_of_find?_eq_some hq, by simpa [isM] using List.find?_some hq, rfl⟩
theorem find_false {K : List Ln} {a : Mac} (h : (findX K a).2 = false) : (findX K a).1 = 0 := by
  unfold findX at *
  cases hq : K.find? (isM a) with
  | none => rfl
  | some l => rw [hq] at h; cases h
theorem frange (p q : Nat) : ∀ P : Nat, (List.range P).filter (refG q (p : Int)) = if p < P ∧ p ≠ q then [p] else []
  | 0 => by simp
  | P + 1 => by
    rw [filter_range, frange p q P]
    by_cases h1 : p = P
    · subst h1
      by_cases h2 : p = q
      · simp [refG, h2]
      · have hg : refG q (p : Int) p = true := by simp [refG, h2]
        rw [if_neg (by omega), if_pos hg, if_pos ⟨by omega, h2⟩]
        rfl
    · have hg : ¬ refG q (p : Int) P = true := by
        simp [refG]
        omega
      rw [if_neg hg, List.append_nil]
      by_cases h2 : p < P ∧ p ≠ q
      · rw [if_pos h2, if_pos ⟨by omega, h2.2⟩]
      · rw [if_neg h2, if_neg (by omega)]
theorem out_ref {P q : Nat} {S : List Ln} (a : Mac) (hE : Even S) (hP : Ports P S) : outX P (KF S) q a = (List.range P).filter (refG q (toX (KF S) a)) := by
  unfold outX toX
  cases hf : (findX (KF S) a).2
  · rw [if_neg (by simp), if_neg (by simp)]
    unfold keepP
    congr 1
    funext i
    simp [refG, isP]
  · obtain ⟨l, hl, hm, hp⟩ := find_true hf
    have hne : a ≠ allM := fun e => by
      have := hE l (kf_sub hl)
      rw [hm, e] at this
      revert this
      decide
    have hlt : l.p < P := hP l (kf_sub hl)
    rw [if_pos ⟨rfl, hne⟩, if_pos rfl, hp, frange]
    by_cases h : l.p = q
    · rw [if_neg (by omega)]
      simp [keepP, isP, h]
    · rw [if_pos ⟨hlt, h⟩]
      simp [keepP, isP, h]
theorem fwK_ref (S : List Ln) (q : Nat) (F : List UInt8) : fwK (KF S) q F = KF (refS S q F) := by
  unfold fwK refS
  rcases (show (macOf F 6).x0.toNat % 2 = 0 ∨ (macOf F 6).x0.toNat % 2 = 1 by omega) with h | h
  · rw [if_neg (by omega), if_pos h, kf_snoc]
  · rw [if_pos h, if_neg (by omega)]
/-- the code's answer is the document's -/
theorem ref_fw {P : Nat} {S : List Ln} (hE : Even S) (hP : Ports P S) (z : Int) (F : List UInt8) :
    fwX P (KF S) z F = (KF (refX P S z F).1, (refX P S z F).2.1, (refX P S z F).2.2) ∧ Even (refX P S z F).1 ∧ Ports P (refX P S z F).1 ∧ (refX P S z F).1.length ≤ S.length + 1 := by
  unfold fwX refX
  split
  · exact ⟨rfl, hE, hP, by simp⟩
  · rename_i hz
    split
    · exact ⟨rfl, hE, hP, by simp⟩
    · have hq : z.toNat < P := by omega
      have hE2 : Even (refS S z.toNat F) := by
        unfold refS
        split
        · rename_i h
          intro l hl
          rcases List.mem_append.1 hl with hl | hl
          · exact hE l hl
          · simp at hl
            subst hl
            exact h
        · exact hE
      have hP2 : Ports P (refS S z.toNat F) := by
        unfold refS
        split
        · intro l hl
          rcases List.mem_append.1 hl with hl | hl
          · exact hP l hl
          · simp at hl
            subst hl
            exact hq
        · exact hP
      refine ⟨?_, hE2, hP2, refS_len _ _ _⟩
      rw [fwK_ref, out_ref _ hE2 hP2]
theorem to_some {K : List Ln} {a : Mac} (h : (findX K a).2 = true) : toX K a = ((findX K a).1 : Int) := by
  unfold toX
  rw [if_pos h]
theorem to_none {K : List Ln} {a : Mac} (h : (findX K a).2 = false) : toX K a = -1 := by
  unfold toX
  rw [if_neg (by simp [h])]
end Go.Proofs.Ytecbelnmdimnkaa
