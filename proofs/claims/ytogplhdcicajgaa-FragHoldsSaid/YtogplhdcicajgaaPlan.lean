/-
  What the law FragAgain needs of the pieces: what becomes of the holes, piece by piece; frag.Add on any of them. No condition.
-/
import Derived.Test.YtogplhdcicajgaaAgainM
namespace Go.Proofs.Ytogplhdcicajgaa
open Go.RowKit

/-- frag.Add, all that the laws want of it -/
theorem add_any (v : Value) (hs : List Hk) (cs : Array Value) (p : Pk) (lo hi now : Nat) (w : World) (hv : HksT w v hs) (hl : hs.length ≤ 8) (hgot : ∀ h ∈ hs, h.got.length < 1000) (hp : PkV w lo hi cs p) (hhi : hi ≤ w.heap.size) (h0 : 0 ≤ p.off) (he : endP p ≤ 1000) (hf : (p.off = 0 ∧ p.more = false) ∨ formedB p = true) (hn : now < 18446744073709551616) :
    Calls Try.prog 7 #[v, .agg cs, .int .u64 (now : Int)] w (AddPost w (addP hs p now)) := by
  by_cases h : p.off = 0 ∧ p.more = false
  · exact add_whole v hs cs p lo hi now w hv hl hp hhi h0 he hn h.1 h.2
  · exact add_part v hs cs p lo hi now w hv hl hp hhi h0 he hn hgot (hf.resolve_left h) h

structure PlanA (q : Pk) (N k : Nat) (st : Nat → List Hk) : Prop where
  zero : st 0 = []
  small : ∀ i, (st i).length ≤ 8 ∧ ∀ h ∈ st i, h.got.length < 1000
  new : ∀ i, i < N → addP (st i) (pieceP q (N - 1 - (i + k) % N)) 5 = if i + 1 = N then ([], q, true, 0) else (st (i + 1), Pk.zero, false, 0)
  twice : ∀ i, i + 1 < N → addP (st (i + 1)) (pieceP q (N - 1 - (i + k) % N)) 5 = (st (i + 1), Pk.zero, false, 0)
theorem pieces_bounds (n : Nat) : 0 < piecesN n ∧ n ≤ 176 * piecesN n ∧ (2 ≤ piecesN n → 176 * (piecesN n - 1) < n) ∧ (n ≤ 1000 → piecesN n ≤ 6) ∧ (176 < n → 2 ≤ piecesN n) ∧ (n ≤ 176 → piecesN n = 1) := by
  unfold piecesN
  split <;> omega
theorem plan_any (q : Pk) (hn : q.data.length ≤ 1000) (ho : q.off = 0) (hm : q.more = false) (k : Nat) (hk : k < piecesN q.data.length) : ∃ st, PlanA q (piecesN q.data.length) k st := by
  obtain ⟨b1, b2, b3, b4, b5, b6⟩ := pieces_bounds q.data.length
  generalize piecesN q.data.length = N at *
  by_cases h1 : N = 1
  · subst h1
    refine ⟨fun _ => [], rfl, fun i => ⟨Nat.zero_le _, fun h hh => by cases hh⟩, fun i hi => ?_, fun i hi => by omega⟩
    have hi0 : i = 0 := by omega
    subst hi0
    have hk0 : k = 0 := by omega
    subst hk0
    have hl : q.data.length ≤ 176 := by omega
    have hpc : pieceP q (1 - 1 - (0 + 0) % 1) = q := by
      show pieceP q 0 = q
      have e1 : decide (176 * (0 + 1) < q.data.length) = q.more := by rw [hm]; exact decide_eq_false (by omega)
      have e2 : ((176 * 0 : Nat) : Int) = q.off := by rw [ho]; rfl
      unfold pieceP
      rw [e1, e2, Nat.mul_zero, List.drop_zero, List.take_of_length_le hl]
    rw [hpc, if_pos rfl]
    unfold addP
    rw [if_neg (by unfold endP; rw [ho]; omega), if_pos ⟨ho, hm⟩]
    rfl
  · have hN : 2 ≤ N := by omega
    have hpi : ∀ i, i < N → N - 1 - (i + k) % N = pcA N (N - 1 - k) i := fun i hi => by
      unfold pcA
      by_cases hc : i + k < N
      · rw [Nat.mod_eq_of_lt hc, if_pos (by omega)]
        omega
      · rw [Nat.mod_eq_sub_mod (by omega), Nat.mod_eq_of_lt (by omega), if_neg (by omega)]
        omega
    refine ⟨stA q N (N - 1 - k), rfl, fun i => ⟨Nat.le_trans (stA_le _ _ _ _) (by decide), stA_got _ _ _ _⟩, fun i hi => ?_, fun i hi => ?_⟩
    · rw [hpi i hi]
      exact again_new hn (b3 hN) b2 hN (by omega) ho hm i hi
    · rw [hpi i (by omega)]
      exact again_twice hn (b3 hN) b2 hN (by omega) i hi
/-- what frag.Add asks of a piece -/
theorem piece_ok (q : Pk) (hn : q.data.length ≤ 1000) (m : Nat) (hm : m < piecesN q.data.length) : 0 ≤ (pieceP q m).off ∧ endP (pieceP q m) ≤ 1000 ∧ (((pieceP q m).off = 0 ∧ (pieceP q m).more = false) ∨ formedB (pieceP q m) = true) := by
  obtain ⟨b1, b2, b3, b4, b5, b6⟩ := pieces_bounds q.data.length
  by_cases h1 : q.data.length ≤ 176
  · have h2 := b6 h1
    have hm0 : m = 0 := by omega
    subst hm0
    refine ⟨by simp [pieceP], ?_, .inl ⟨by simp [pieceP], by simp [pieceP]; omega⟩⟩
    unfold endP pieceP
    simp only [List.length_take, List.length_drop]
    omega
  · have h2 := b5 (by omega)
    have h3 := b3 h2
    have hle : 176 * m ≤ 176 * (piecesN q.data.length - 1) := Nat.mul_le_mul_left _ (by omega)
    have hq := piece_is q m (by omega)
    refine ⟨by rw [hq.off]; omega, by rw [hq.fin]; omega, ?_⟩
    by_cases hnw : 176 * m = 0 ∧ min (176 * (m + 1)) q.data.length = q.data.length
    · omega
    · have := (conds hq hn (by omega) (by omega) hnw).2.2
      refine .inr ?_
      simpa using this
end Go.Proofs.Ytogplhdcicajgaa
