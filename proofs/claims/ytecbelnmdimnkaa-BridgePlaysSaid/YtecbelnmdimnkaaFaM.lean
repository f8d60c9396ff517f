/-
  BridgeFair's mathematics: by which ports frames go out, and where a card is that was seen among the last few. No program's walk, no condition.
-/
import Derived.Test.YtecbelnmdimnkaaLiB
namespace Go.Proofs.Ytecbelnmdimnkaa
open Go.RowKit

theorem macOf_fst (d s : Mac) : macOf (frB d s) 0 = d := rfl
theorem macOf_snd (d s : Mac) : macOf (frB d s) 6 = s := rfl
theorem fw_frB {P q : Nat} (K : List Ln) (d s : Mac) (h : q < P) : fwX P K (q : Int) (frB d s) = (if s.x0.toNat % 2 = 1 then K else seeP K s q, outX P (if s.x0.toNat % 2 = 1 then K else seeP K s q) q d, 0) := by
  unfold fwX
  rw [if_neg (by omega), if_neg (by rw [frB_len]; decide)]
  rfl
/-- all ports are below n -/
def Ports (n : Nat) (K : List Ln) : Prop := ∀ l ∈ K, l.p < n
theorem ports_see {n : Nat} {K : List Ln} (h : Ports n K) (a : Mac) {p : Nat} (hp : p < n) : Ports n (seeP K a p) := by
  intro l hl
  unfold seeP at hl
  rcases List.mem_append.1 hl with hl | hl
  · exact h l (List.mem_filter.1 (List.mem_of_mem_drop hl)).1
  · simp at hl
    subst hl
    exact hp
theorem ports_find {n : Nat} {K : List Ln} (h : Ports n K) (a : Mac) (hf : (findX K a).2 = true) : (findX K a).1 < n := by
  unfold findX at *
  cases hq : K.find? (isM a) with
  | none => rw [hq] at hf; cases hf
  | some l => exact h l (List.mem_of_find?_eq_some hq)
theorem keepP_mem {L : List Nat} {q p : Nat} (h : p ∈ keepP L q) : p ∈ L ∧ p ≠ q := by
  unfold keepP at h
  obtain ⟨h1, h2⟩ := List.mem_filter.1 h
  exact ⟨h1, by simpa [isP] using h2⟩
theorem out_fair {P : Nat} {K : List Ln} (h : Ports P K) (q : Nat) (a : Mac) : ∀ p ∈ outX P K q a, p ≠ q ∧ p < P := by
  intro p hp
  unfold outX at hp
  split at hp
  · rename_i hc
    obtain ⟨h1, h2⟩ := keepP_mem hp
    simp at h1
    subst h1
    exact ⟨h2, ports_find h a hc.1⟩
  · obtain ⟨h1, h2⟩ := keepP_mem hp
    exact ⟨h2, List.mem_range.1 h1⟩
theorem fwX_fair {P : Nat} {K : List Ln} (h : Ports P K) (z : Int) (F : List UInt8) : Ports P (fwX P K z F).1 ∧ ∀ p ∈ (fwX P K z F).2.1, (p : Int) ≠ z ∧ p < P := by
  unfold fwX
  split
  · exact ⟨h, by simp⟩
  · split
    · exact ⟨h, by simp⟩
    · rename_i hz _
      have hz2 : z.toNat < P := by omega
      have hk : Ports P (fwK K z.toNat F) := by
        unfold fwK
        split
        · exact h
        · exact ports_see h _ hz2
      refine ⟨hk, fun p hp => ?_⟩
      obtain ⟨h1, h2⟩ := out_fair hk _ _ p hp
      exact ⟨by omega, h2⟩
theorem out_len (P : Nat) (K : List Ln) (q : Nat) (a : Mac) : (outX P K q a).length ≤ P + 1 := by
  unfold outX
  split
  · exact Nat.le_trans (List.length_filter_le _ _) (by simp)
  · exact Nat.le_trans (List.length_filter_le _ _) (by simp)
theorem fwX_out (P : Nat) (K : List Ln) (z : Int) (F : List UInt8) : (fwX P K z F).2.1.length ≤ P + 1 := by
  unfold fwX
  split
  · simp
  · split
    · simp
    · exact out_len _ _ _ _
/-- card a stands at port i, first, with at most d others behind it -/
def HasM (a : Mac) (i d : Nat) (K : List Ln) : Prop := ∃ X Y, K = X ++ ⟨a, i⟩ :: Y ∧ (∀ l ∈ X, l.m ≠ a) ∧ Y.length ≤ d
theorem has_see (K : List Ln) (a : Mac) (i : Nat) : HasM a i 0 (seeP K a i) := by
  refine ⟨(keepK K a).drop ((keepK K a).length + 1 - 16), [], rfl, fun l hl => ?_, Nat.le_refl _⟩
  have := (List.mem_filter.1 (List.mem_of_mem_drop hl)).2
  simpa [isM] using this
theorem has_other {a b : Mac} {i d q : Nat} {K : List Ln} (h : HasM a i d K) (hne : a ≠ b) (hd : d ≤ 14) : HasM a i (d + 1) (seeP K b q) := by
  obtain ⟨X, Y, rfl, h1, h2⟩ := h
  have e : keepK (X ++ ⟨a, i⟩ :: Y) b = keepK X b ++ ⟨a, i⟩ :: keepK Y b := by
    unfold keepK
    rw [List.filter_append, List.filter_cons, if_pos (by simp [isM, hne])]
  have hy := keepK_le Y b
  refine ⟨(keepK X b).drop ((keepK (X ++ ⟨a, i⟩ :: Y) b).length + 1 - 16), keepK Y b ++ [⟨b, q⟩], ?_, fun l hl => h1 l (List.mem_filter.1 (List.mem_of_mem_drop hl)).1, by simp; omega⟩
  unfold seeP
  rw [e, List.drop_append_of_le_length (by simp only [List.length_append, List.length_cons]; omega)]
  simp
theorem find_has {a : Mac} {i d : Nat} {K : List Ln} (h : HasM a i d K) : findX K a = (i, true) := by
  obtain ⟨X, Y, rfl, h1, -⟩ := h
  unfold findX
  have : (X ++ ⟨a, i⟩ :: Y).find? (isM a) = some ⟨a, i⟩ := by
    rw [List.find?_append, List.find?_eq_none.2 fun l hl => by simpa [isM] using h1 l hl, Option.none_or, List.find?_cons_of_pos (by simp [isM])]
  rw [this]
def c44 : Mac := ⟨4, 4, 0, 0, 0, 0⟩
def c45 : Mac := ⟨4, 5, 0, 0, 0, 0⟩
theorem keep_all : ∀ q : Fin 4, (keepP (List.range 4) q.val).length = 3 := by decide
/-- what the law's end asks -/
theorem fair_end (K : List Ln) (i k : Nat) (hi : i < 4) (hk : k < 4) : ∃ Ka La Kb Lb Kc Kd Ld, fwX 4 K (i : Int) (frB allM c44) = (Ka, La, 0) ∧ fwX 4 Ka (k : Int) (frB allM c45) = (Kb, Lb, 0) ∧ fwX 4 Kb (k : Int) (frB c44 c45) = (Kc, keepP [i] k, 0) ∧
    fwX 4 Kb (k : Int) (frB allM c44) = (Kd, Ld, 0) ∧ Ld.length = 3 ∧ Ka.length ≤ 16 ∧ Kb.length ≤ 16 := by
  have e4 : ¬ c44.x0.toNat % 2 = 1 := by decide
  have e5 : ¬ c45.x0.toNat % 2 = 1 := by decide
  have h1 := fw_frB K allM c44 hi
  rw [if_neg e4] at h1
  have h2 := fw_frB (seeP K c44 i) allM c45 hk
  rw [if_neg e5] at h2
  have h3 := fw_frB (seeP (seeP K c44 i) c45 k) c44 c45 hk
  rw [if_neg e5] at h3
  have h4 := fw_frB (seeP (seeP K c44 i) c45 k) allM c44 hk
  rw [if_neg e4] at h4
  have hf := find_has (has_other (q := k) (has_other (q := k) (has_see K c44 i) (show c44 ≠ c45 by decide) (by decide)) (show c44 ≠ c45 by decide) (by decide))
  refine ⟨_, _, _, _, seeP (seeP (seeP K c44 i) c45 k) c45 k, _, _, h1, h2, ?_, h4, ?_, seeP_le _ _ _, seeP_le _ _ _⟩
  · rw [h3]
    unfold outX
    rw [hf, if_pos ⟨rfl, by decide⟩]
  · unfold outX
    rw [if_neg (by simp)]
    exact keep_all ⟨k, hk⟩
end Go.Proofs.Ytecbelnmdimnkaa
