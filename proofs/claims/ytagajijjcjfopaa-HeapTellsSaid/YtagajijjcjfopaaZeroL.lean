/-
  What lies outside of a heap's blocks is nought; a block that is given away and taken back. No program's walk, no condition.
-/
import Derived.Test.YtagajijjcjfopaaVarL
namespace Go.Proofs.Ytagajijjcjfopaa
open Go.RowKit

/-- all bytes outside of the blocks are noughts -/
def ZeroOut (B : List UInt8) (L : List Bk) : Prop := ∀ i v, B[i]? = some v → (∀ b ∈ L, ¬ (b.1 ≤ i ∧ i < b.1 + b.2)) → v = 0
theorem putB_get {B l : List UInt8} {a : Nat} (h : a + l.length ≤ B.length) (i : Nat) : (putB B a l)[i]? = if i < a then B[i]? else if i < a + l.length then l[i - a]? else B[i]? := by
  unfold putB
  have ht : (B.take a).length = a := by rw [List.length_take]; omega
  rw [List.append_assoc]
  by_cases h1 : i < a
  · rw [if_pos h1, List.getElem?_append_left (by omega), List.getElem?_take, if_pos h1]
  · rw [if_neg h1, List.getElem?_append_right (by omega), ht]
    by_cases h2 : i < a + l.length
    · rw [if_pos h2, List.getElem?_append_left (by omega)]
    · rw [if_neg h2, List.getElem?_append_right (by omega), List.getElem?_drop]
      congr 1
      omega
theorem zero_rep {n i : Nat} {v : UInt8} (h : (List.replicate n (0 : UInt8))[i]? = some v) : v = 0 := by
  have := List.mem_of_getElem? h
  exact (List.mem_replicate.1 this).2
theorem ZeroOut.new (n : Nat) : ZeroOut (List.replicate n 0) [] := fun _ _ h _ => zero_rep h
theorem alloc_sub (T : Nat) (L : List Bk) (n : Int) : ∀ b ∈ L, b ∈ (allocO T L n).1 := by
  intro b hb
  unfold allocO
  split
  · exact hb
  · split
    · exact hb
    · split
      · exact hb
      · rename_i a i _
        rw [← List.take_append_drop i L] at hb
        simp only [List.mem_append, List.mem_cons] at hb ⊢
        exact hb.elim .inl fun h => .inr (.inr h)
theorem ZeroOut.alloc {B : List UInt8} {L : List Bk} (h : ZeroOut B L) (n : Int) : ZeroOut B (allocO B.length L n).1 :=
  fun i v hi hn => h i v hi fun b hb => hn b (alloc_sub _ _ _ b hb)
theorem ZeroOut.store {B : List UInt8} {L : List Bk} {D : List Bool} (h : ZeroOut B L) (hR : RightH B L D) (x : Int) (l : List UInt8) : ZeroOut (storeO B L D x l).1 L := by
  unfold storeO
  split
  · rename_i hg
    have hin := given_in hR.blk (by omega) hg
    obtain ⟨b, hb, hp⟩ := List.any_eq_true.1 hg
    unfold inB at hp
    simp only [decide_eq_true_eq] at hp
    intro i v hi hn
    have hn1 := hn b hb
    rw [putB_get (by omega)] at hi
    by_cases h1 : i < x.toNat
    · rw [if_pos h1] at hi
      exact h i v hi hn
    · rw [if_neg h1, if_neg (by omega)] at hi
      exact h i v hi hn
  · exact h
theorem mem_split {α : Type} {l : List α} {i : Nat} {x : α} (hi : l[i]? = some x) : ∀ y ∈ l, y = x ∨ y ∈ l.eraseIdx i := by
  induction l generalizing i with
  | nil => intro y hy; cases hy
  | cons z r ih =>
    intro y hy
    cases i with
    | zero =>
      simp at hi
      subst hi
      simpa using hy
    | succ i =>
      simp at hi
      rcases List.mem_cons.1 hy with rfl | hy
      · exact .inr (by simp)
      · rcases ih hi y hy with h | h
        · exact .inl h
        · exact .inr (by simp [h])
theorem ZeroOut.free {B : List UInt8} {L : List Bk} {D : List Bool} (h : ZeroOut B L) (hR : RightH B L D) (x : Int) : ZeroOut (freeO B L D x).1 (freeO B L D x).2.1 := by
  unfold freeO
  split
  · exact h
  · rename_i i hi
    split
    · exact h
    · rename_i b hb
      have hbd := blk_bound hR.blk b (List.mem_of_getElem? hb)
      intro j v hj hn
      have hj : (putB B b.1 (List.replicate b.2 0))[j]? = some v := hj
      have hn : ∀ c ∈ L.eraseIdx i, ¬ (c.1 ≤ j ∧ j < c.1 + c.2) := hn
      rw [putB_get (by rw [List.length_replicate]; omega), List.length_replicate] at hj
      by_cases h1 : j < b.1
      · rw [if_pos h1] at hj
        refine h j v hj fun c hc => ?_
        rcases mem_split hb c hc with rfl | hc
        · omega
        · exact hn c hc
      · rw [if_neg h1] at hj
        by_cases h2 : j < b.1 + b.2
        · rw [if_pos h2] at hj
          exact zero_rep hj
        · rw [if_neg h2] at hj
          refine h j v hj fun c hc => ?_
          rcases mem_split hb c hc with rfl | hc
          · omega
          · exact hn c hc
theorem blk_from {T f : Nat} {L : List Bk} (h : Blk T f L) : ∀ b ∈ L, f ≤ b.1 ∧ 8 ≤ b.2 := by
  induction L generalizing f with
  | nil => intro b hb; cases hb
  | cons c r ih =>
    obtain ⟨h1, h2, h3, h4, h5, h6⟩ := h
    intro b hb
    rcases List.mem_cons.1 hb with rfl | hb
    · exact ⟨h1, h3⟩
    · have := ih h6 b hb
      exact ⟨by omega, this.2⟩
theorem room_after {T n f i : Nat} {L : List Bk} {p : Nat × Nat} (hL : Blk T f L) (h : roomL T n f i L = some p) : f ≤ p.1 := by
  induction L generalizing f i with
  | nil =>
    unfold roomL at h
    split at h
    · cases h; exact Nat.le_refl _
    · cases h
  | cons c r ih =>
    obtain ⟨h1, h2, h3, h4, h5, h6⟩ := hL
    unfold roomL at h
    split at h
    · cases h; exact Nat.le_refl _
    · have := ih h6 h
      omega
/-- where there is room, no block lies -/
theorem room_gap {T n f i : Nat} {L : List Bk} {p : Nat × Nat} (hL : Blk T f L) (hn : 8 ≤ n) (h : roomL T n f i L = some p) : ∀ b ∈ L, b.1 + b.2 ≤ p.1 ∨ p.1 + n ≤ b.1 := by
  induction L generalizing f i with
  | nil => intro b hb; cases hb
  | cons c r ih =>
    obtain ⟨h1, h2, h3, h4, h5, h6⟩ := hL
    unfold roomL at h
    split at h
    · cases h
      intro b hb
      rcases List.mem_cons.1 hb with rfl | hb
      · exact .inr (by simp only; omega)
      · have := (blk_from h6 b hb).1
        exact .inr (by simp only; omega)
    · intro b hb
      rcases List.mem_cons.1 hb with rfl | hb
      · have : b.1 + b.2 ≤ p.1 := room_after h6 h
        exact .inl this
      · exact ih h6 h b hb
/-- the blocks ahead of which a block is laid end ahead of it -/
theorem room_before {T n f i : Nat} {L : List Bk} {p : Nat × Nat} (hL : Blk T f L) (hn : 8 ≤ n) (h : roomL T n f i L = some p) : ∀ j b, j < p.2 - i → L[j]? = some b → b.1 + b.2 ≤ p.1 := by
  induction L generalizing f i with
  | nil => intro j b _ hb; simp at hb
  | cons c r ih =>
    obtain ⟨h1, h2, h3, h4, h5, h6⟩ := hL
    unfold roomL at h
    split at h
    · cases h
      intro j b hj
      simp only at hj
      omega
    · intro j b hj hb
      cases j with
      | zero =>
        simp at hb
        subst hb
        exact room_after h6 h
      | succ j =>
        simp at hb
        exact ih h6 h j b (by omega) hb
theorem room_idx {T n : Nat} {L : List Bk} {p : Nat × Nat} (m : Nat) (hL : Blk T 0 L) (hn : 8 ≤ n) (h : roomL T n 0 0 L = some p) :
    (L.take p.2 ++ (p.1, m) :: L.drop p.2)[p.2]? = some (p.1, m) ∧ (L.take p.2 ++ (p.1, m) :: L.drop p.2).findIdx? (atB (p.1 : Int)) = some p.2 ∧ (L.take p.2 ++ (p.1, m) :: L.drop p.2).eraseIdx p.2 = L := by
  have hi := (room_le h).2
  have ht : (L.take p.2).length = p.2 := by rw [List.length_take]; omega
  have h1 : (L.take p.2 ++ (p.1, m) :: L.drop p.2)[p.2]? = some (p.1, m) := by
    rw [List.getElem?_append_right (by omega), ht, Nat.sub_self]
    rfl
  refine ⟨h1, idx_some h1 (by simp [atB]) fun j b hj hb => ?_, ?_⟩
  · rw [List.getElem?_append_left (by omega), List.getElem?_take, if_pos hj] at hb
    have h2 := room_before hL hn h j b (by omega) hb
    have h3 := (blk_from hL b (List.mem_of_getElem? hb)).2
    simp only [atB, decide_eq_false_iff_not]
    omega
  · rw [List.eraseIdx_append_of_length_le (by omega), ht, Nat.sub_self]
    show L.take p.2 ++ L.drop p.2 = L
    exact List.take_append_drop _ _
theorem bk_cells {w : World} {base nk c k g : Nat} {L : List Bk} {b : Bk} (h : w.ownsRow base 62 2 (.slice (some ⟨g, 0, none⟩) nk c) nk (bks L)) (hk : L[k]? = some b) : ∀ j u, [Value.int .i64 (b.1 : Int), .int .i64 (b.2 : Int)][j]? = some u → w.cell? ((⟨g, k * 2, none⟩ : Addr).add j) = some u := by
  intro j u hu
  rw [Addr.add_mid]
  refine own_cell h ?_
  have h2 := congrArg (·[j]?) (bks_at L k b hk)
  simp only [List.getElem?_take, List.getElem?_drop] at h2
  have hj : j < 2 := (List.getElem?_eq_some_iff.1 hu).1
  rw [if_pos hj] at h2
  rw [h2]
  exact hu
theorem alloc_le {T a : Nat} {L M : List Bk} {n e : Int} (h : allocO T L n = (M, a, e)) (hL : Blk T 0 L) : a ≤ T := by
  unfold allocO at h
  split at h
  · cases h; exact Nat.zero_le _
  · split at h
    · cases h; exact Nat.zero_le _
    · cases ho : roomL T (wholeN n.toNat) 0 0 L with
      | none => rw [ho] at h; cases h; exact Nat.zero_le _
      | some p =>
        rw [ho] at h
        cases h
        have := (room_blk hL (by have := whole_le n.toNat; omega) (whole_le n.toNat).2.2 rfl (Nat.zero_le _) ho).2.2.1
        omega
/-- given away, written, taken back -/
theorem back_math {B : List UInt8} {L : List Bk} {D : List Bool} (hR : RightH B L D) (hZ : ZeroOut B L) (n : Int) (l : List UInt8) (h1 : 1 ≤ n) (hl : (l.length : Int) ≤ n) {M : List Bk} {a : Nat} {e : Int} (hA : allocO B.length L n = (M, a, e)) :
    (e = 5 ∧ M = L) ∨ (e = 0 ∧ ∃ D1 B1, storeO B M D a l = (B1, D1, 0) ∧ ∃ D2, freeO B1 M D1 a = (B, L, D2, 0)) := by
  unfold allocO at hA
  rw [if_neg (by omega)] at hA
  split at hA
  · cases hA; exact .inl ⟨rfl, rfl⟩
  · have hw := whole_le n.toNat
    cases ho : roomL B.length (wholeN n.toNat) 0 0 L with
    | none => rw [ho] at hA; cases hA; exact .inl ⟨rfl, rfl⟩
    | some p =>
      rw [ho] at hA
      obtain ⟨p1, p2⟩ := p
      cases hA
      obtain ⟨g1, g2, g3, g4⟩ := room_blk hR.blk (by omega) hw.2.2 rfl (Nat.zero_le _) ho
      obtain ⟨k1, k2, k3⟩ := room_idx (wholeN n.toNat) hR.blk (by omega) ho
      have k4 := room_gap hR.blk (by omega) ho
      simp only at g1 g2 g3 g4 k1 k2 k3 k4
      refine .inr ⟨rfl, markD D a l.length, putB B a l, ?_, markD (markD D a l.length) a (wholeN n.toNat), ?_⟩
      · unfold storeO
        have : givenB (L.take p2 ++ (a, wholeN n.toNat) :: L.drop p2) (a : Int) (l.length : Int) = true := List.any_eq_true.2 ⟨(a, wholeN n.toNat), by simp, by simp only [inB, decide_eq_true_eq]; omega⟩
        rw [if_pos this]
        simp
      · unfold freeO
        simp only [k2, k1, k3]
        congr 1
        have hlB : a + l.length ≤ B.length := by omega
        have hl2 := putB_length (B := B) (l := l) (a := a) hlB
        refine List.ext_getElem? fun i => ?_
        rw [putB_get (by rw [List.length_replicate]; omega), List.length_replicate, putB_get hlB]
        by_cases h1 : i < a
        · rw [if_pos h1, if_pos h1]
        · rw [if_neg h1]
          by_cases h2 : i < a + wholeN n.toNat
          · rw [if_pos h2]
            have hiB : i < B.length := by omega
            rw [List.getElem?_replicate, if_pos (by omega), List.getElem?_eq_getElem hiB]
            congr 1
            refine (hZ i _ (List.getElem?_eq_getElem hiB) fun b hb => ?_).symm
            have := k4 b hb
            omega
          · rw [if_neg h2, if_neg h1, if_neg (by omega)]
end Go.Proofs.Ytagajijjcjfopaa
