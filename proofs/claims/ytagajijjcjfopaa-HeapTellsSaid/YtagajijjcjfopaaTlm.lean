/-
  Which pages of a heap another one has: what is told, what is written between. No program's walk, no condition.
-/
import Derived.Test.YtagajijjcjfopaaPlm
namespace Go.Proofs.Ytagajijjcjfopaa
open Go.RowKit

/-- of the first p pages, those that were not written since are the other heap's -/
def Told (p : Nat) (B C : List UInt8) (D : List Bool) : Prop := ∀ q, q < p → D[q]? = some false → pageB B q = pageB C q
theorem page_get (B : List UInt8) (q i : Nat) : (pageB B q)[i]? = if i < 64 then B[64 * q + i]? else none := by
  unfold pageB
  rw [List.getElem?_take, List.getElem?_drop]
theorem page_away {B l : List UInt8} {a q : Nat} (h : a + l.length ≤ B.length) (hd : a + l.length ≤ 64 * q ∨ 64 * (q + 1) ≤ a) : pageB (putB B a l) q = pageB B q := by
  refine List.ext_getElem? fun i => ?_
  rw [page_get, page_get]
  by_cases hi : i < 64
  · rw [if_pos hi, if_pos hi, putB_get h]
    by_cases h1 : 64 * q + i < a
    · rw [if_pos h1]
    · rw [if_neg h1, if_neg (by omega)]
  · rw [if_neg hi, if_neg hi]
theorem page_same {B l : List UInt8} {p : Nat} (h : 64 * p + l.length ≤ B.length) (hl : l.length = 64) : pageB (putB B (64 * p) l) p = l := by
  refine List.ext_getElem? fun i => ?_
  rw [page_get]
  by_cases hi : i < 64
  · rw [if_pos hi, putB_get h, if_neg (by omega), if_pos (by omega), Nat.add_sub_cancel_left]
  · rw [if_neg hi, List.getElem?_eq_none (by omega)]
theorem pageB_len {B : List UInt8} {p : Nat} (h : 64 * (p + 1) ≤ B.length) : (pageB B p).length = 64 := by
  unfold pageB
  rw [List.length_take, List.length_drop]
  omega
theorem set_get {D : List Bool} {p q : Nat} {b : Bool} (h : (D.set p false)[q]? = some b) (hne : q ≠ p) : D[q]? = some b := by
  rw [List.getElem?_set] at h
  rwa [if_neg (fun e => hne e.symm)] at h
theorem told_tell {B C : List UInt8} {D : List Bool} {n m p : Nat} (h : Told n B C D) (hm : ∀ q, q < m → q ≠ p → q < n) (hB : 64 * (p + 1) ≤ B.length) (hC : 64 * (p + 1) ≤ C.length) : Told m B (putB C (64 * p) (pageB B p)) (D.set p false) := by
  intro q hq hd
  have hl := pageB_len hB
  by_cases hqp : q = p
  · subst hqp
    rw [page_same (by omega) hl]
  · rw [page_away (by omega) (by omega)]
    exact h q (hm q hq hqp) (set_get hd hqp)
theorem mark_false {D : List Bool} {a n q : Nat} (h : (markD D a n)[q]? = some false) : D[q]? = some false ∧ (n = 0 ∨ 64 * (q + 1) ≤ a ∨ a + n ≤ 64 * q) := by
  rw [mark_get] at h
  cases hd : D[q]? with
  | none => rw [hd] at h; cases h
  | some d =>
    rw [hd, Option.map_some] at h
    injection h with h
    rw [Bool.or_eq_false_iff] at h
    obtain ⟨rfl, h⟩ := h
    refine ⟨rfl, ?_⟩
    simp only [Bool.and_eq_false_iff, decide_eq_false_iff_not] at h
    omega
theorem told_step {B C : List UInt8} {L : List Bk} {D : List Bool} {p : Nat} (h : Told p B C D) (hR : RightH B L D) (r : Nat) (hr : r < 5) (x n : Int) (d : List UInt8) (sh : Bool) :
    Told p (stepO r x n d sh (B, L, D)).1 C (stepO r x n d sh (B, L, D)).2.2 := by
  unfold stepO
  split
  · exact h
  · split
    · intro q hq hd
      show pageB (freeO B L D x).1 q = _
      have hd : (freeO B L D x).2.2.1[q]? = some false := hd
      unfold freeO at hd ⊢
      cases hi : L.findIdx? (atB x) with
      | none =>
        simp only [hi] at hd ⊢
        exact h q hq hd
      | some i =>
        simp only [hi] at hd ⊢
        cases hb : L[i]? with
        | none =>
          simp only [hb] at hd ⊢
          exact h q hq hd
        | some b =>
          simp only [hb] at hd ⊢
          have hbd := blk_bound hR.blk b (List.mem_of_getElem? hb)
          obtain ⟨h1, h2⟩ := mark_false hd
          rw [page_away (by rw [List.length_replicate]; omega) (by rw [List.length_replicate]; omega)]
          exact h q hq h1
    · split
      · intro q hq hd
        show pageB (storeO B L D x d).1 q = _
        have hd : (storeO B L D x d).2.1[q]? = some false := hd
        unfold storeO at hd ⊢
        split
        · rename_i hg
          rw [if_pos hg] at hd
          have hin := given_in hR.blk (by omega) hg
          obtain ⟨h1, h2⟩ := mark_false hd
          show pageB (putB B x.toNat d) q = _
          rcases h2 with h2 | h2
          · have : d = [] := List.length_eq_zero_iff.1 h2
            subst this
            have : putB B x.toNat [] = B := by unfold putB; simp
            rw [this]
            exact h q hq h1
          · rw [page_away (by omega) (by omega)]
            exact h q hq h1
        · rename_i hg
          rw [if_neg hg] at hd
          exact h q hq hd
      · split
        · exact h
        · exfalso; omega
theorem told_all {B C : List UInt8} {D : List Bool} {n : Nat} (h : Told n B C D) (hD : D.length = n) (hf : ∀ q : Nat, D[q]? ≠ some true) (hB : B.length = 64 * n) (hC : C.length = 64 * n) : B = C := by
  refine List.ext_getElem? fun i => ?_
  by_cases hi : i < 64 * n
  · have hq : i / 64 < n := by omega
    have hd : D[i / 64]? = some false := by
      cases hd : D[i / 64] <;> rw [List.getElem?_eq_getElem (by omega), hd]
      exact absurd (by rw [List.getElem?_eq_getElem (by omega), hd]) (hf (i / 64))
    have := congrArg (·[i % 64]?) (h (i / 64) hq hd)
    simp only [page_get] at this
    rw [if_pos (Nat.mod_lt _ (by decide)), if_pos (Nat.mod_lt _ (by decide)), Nat.div_add_mod] at this
    exact this
  · rw [List.getElem?_eq_none (by omega), List.getElem?_eq_none (by omega)]
theorem pages_in {D : List Bool} {q : Nat} (h : D[q]? = some true) : q ∈ pagesTo D D.length := by
  unfold pagesTo
  refine List.mem_filter.2 ⟨by simpa using (List.getElem?_eq_some_iff.1 h).1, ?_⟩
  simp [h]
theorem pages_empty {D : List Bool} (hf : ∀ q : Nat, D[q]? ≠ some true) : pagesTo D D.length = [] := by
  refine List.eq_nil_iff_forall_not_mem.2 fun q hq => ?_
  unfold pagesTo at hq
  have h2 := (List.mem_filter.1 hq)
  cases hd : D[q]? with
  | none => rw [hd] at h2; simp at h2
  | some b =>
    rw [hd] at h2
    cases b
    · simp at h2
    · exact hf q hd
end Go.Proofs.Ytagajijjcjfopaa
