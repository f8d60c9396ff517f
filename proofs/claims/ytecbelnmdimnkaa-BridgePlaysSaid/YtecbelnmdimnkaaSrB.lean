/-
  XStB's words for variables of the document's type of bridge; the document's Forward as a region's operation. Written by mksr.py. No condition.
-/
import Derived.Test.YtecbelnmdimnkaaStB
import Derived.Test.YtecbelnmdimnkaaPlM
namespace Go.Proofs.Ytecbelnmdimnkaa
open Go.RowKit

def VarR (N P : Nat) (K : List Ln) (w : World) : Prop := ∃ s, w.heap[N]? = some (.cells #[.int .i64 (P : Int), s] 32 (0, 0)) ∧ KsT w s K
theorem VarR.below {N P B : Nat} {K : List Ln} {w w' : World} (h : VarR N P K w) (hb : Below B w w') (hB : w.heap.size ≤ B := by first | exact Nat.le_refl _ | simp) : VarR N P K w' := by
  obtain ⟨s, h1, h2⟩ := h
  exact ⟨s, old_below h1 hb (Nat.lt_of_lt_of_le (row_lt h1) hB), h2.below hb hB⟩
theorem VarR.other {N P g : Nat} {K : List Ln} {w w' : World} {C : Array Value} {t : TypeId} {fr : Nat × Nat} (h : VarR N P K w) (hg : w.heap[g]? = some (.cells C t fr)) (ht : t ≠ 58) (hN : N ≠ g) (cs : Array Value) : VarR N P K (w.setRow g cs) := by
  obtain ⟨s, h1, h2⟩ := h
  exact ⟨s, (setRow_other _ _ _ _ hN).trans h1, h2.setRow hg ht cs⟩
section
variable {w : World} {g : Nat} {C : Array Value} {fr : Nat × Nat}
theorem brR_set {v : Value} {P : Nat} {K : List Ln} (h : BrT w v P K) (hg : w.heap[g]? = some (.cells C 32 fr)) (cs : Array Value) : BrT (w.setRow g cs) v P K := by
  obtain ⟨s, e, h1⟩ := h
  exact ⟨s, e, h1.setRow hg (by decide) cs⟩
theorem fwR_set {v : Value} {P : Nat} {K : List Ln} {L : List Nat} {er : Int} (h : FwV P K L er v w) (hg : w.heap[g]? = some (.cells C 32 fr)) (cs : Array Value) : FwV P K L er v (w.setRow g cs) := by
  obtain ⟨v', u, e, h1, h2⟩ := h
  exact ⟨v', u, e, brR_set h1 hg cs, h2.setRow hg (by decide) cs⟩
theorem isR_set {v : Value} {L : List Nat} (h : IsT w v L) (hg : w.heap[g]? = some (.cells C 32 fr)) (cs : Array Value) : IsT (w.setRow g cs) v L := h.setRow hg (by decide) cs
theorem byR_set {v v0 : Value} {B : Nat} {f : Fm} (h : ByP B v0 f v w) (hg : w.heap[g]? = some (.cells C 32 fr)) (cs : Array Value) : ByP B v0 f v (w.setRow g cs) := by
  rcases h with ⟨h1, h2⟩ | h
  · exact .inl ⟨h1, ownk_other h2 hg (by decide) fun j hj => setRow_other _ _ _ _ hj⟩
  · exact .inr h
end
def NewR (w0 : World) (al st slot P : Nat) (K1 : List Ln) (L : Nat → Bool) (us : Nat → Value) (w' : World) : Prop :=
  Below w0.heap.size w0 w' ∧ (L al = true → ∃ g, us slot = .pointer (some ⟨g, 0, none⟩) ∧ w0.heap.size ≤ g ∧ (L st = false → w'.heap[g]? = some (.cells B2 32 (0, 0))) ∧ (L st = true → VarR g P K1 w'))
section
variable {w0 w' : World} {al st slot P : Nat} {K1 : List Ln} {L : Nat → Bool} {us : Nat → Value}
theorem NewR.agree {L' : Nat → Bool} {us' : Nat → Value} (h : NewR w0 al st slot P K1 L us w') (h1 : L al = L' al) (h2 : L st = L' st) (h3 : us slot = us' slot) : NewR w0 al st slot P K1 L' us' w' := by
  unfold NewR at *
  rw [← h1, ← h2, ← h3]
  exact h
theorem NewR.below {w'' : World} (h : NewR w0 al st slot P K1 L us w') (hb : Below w'.heap.size w' w'') : NewR w0 al st slot P K1 L us w'' := by
  obtain ⟨g1, g2⟩ := h
  refine ⟨g1.trans (hb.mono g1.size), fun h => ?_⟩
  obtain ⟨g, e1, e2, e3, e4⟩ := g2 h
  exact ⟨g, e1, e2, fun h => (hb.block _ (row_lt (e3 h))).trans (e3 h), fun h => (e4 h).below hb⟩
theorem NewR.alloc (h : NewR w0 al st slot P K1 L us w') (hn : L st = false) (hne : st ≠ al) : NewR w0 al st slot P K1 (upd L al) (updV us (some slot) (.pointer (some ⟨w'.heap.size, 0, none⟩))) (w'.alloc (.cells B2 32)) := by
  obtain ⟨g1, g2⟩ := h
  refine ⟨g1.alloc g1.size _, fun _ => ⟨w'.heap.size, by unfold updV; rw [if_pos rfl], g1.size, fun _ => heap_alloc_new w' _, fun h => ?_⟩⟩
  simp only [upd, if_neg hne] at h
  rw [hn] at h
  cases h
theorem NewR.store {g : Nat} {C : Array Value} {v : Value} (h : NewR w0 al st slot P K1 L us w') (ha : L al = true) (hn : L st = false) (hg : us slot = .pointer (some ⟨g, 0, none⟩)) (hb : BrT w' (.agg C) P K1) (hne : st ≠ al) :
    w'.heap[g]? = some (.cells B2 32 (0, 0)) ∧ NewR w0 al st slot P K1 (upd L st) (updV us none v) (w'.setRow g C) := by
  obtain ⟨g1, g2⟩ := h
  obtain ⟨g', e1, e2, e3, -⟩ := g2 ha
  rw [hg] at e1
  injection e1 with e1
  injection e1 with e1
  injection e1 with e1
  subst e1
  have hh := e3 hn
  refine ⟨hh, below_setRow g1 e2 _, fun _ => ⟨g, hg, e2, fun h => ?_, fun _ => ?_⟩⟩
  · simp only [upd, if_pos] at h
    cases h
  · obtain ⟨s, e, hk⟩ := brR_set hb hh C
    injection e with e
    exact ⟨s, by rw [← e]; exact setRow_heap _ _ _ _ _ _ hh, hk⟩
end
theorem rw_of {v : Value} {P : Nat} {S : List Ln} {z : Int} {F : List UInt8} {w : World} {S1 : List Ln} {L1 : List Nat} {er : Int} (hv : BrT w v P S) (hl : S.length ≤ 900) (hP : P ≤ 8) (hF : F.length ≤ 100000) (hx : refX P S z F = (S1, L1, er)) :
    Calls Try.prog 11 #[v, .int .i64 z, .string ⟨F.toArray⟩] w fun e w' => ∃ v', e = .returned v' ∧ FwV P S1 L1 er v' w' ∧ Below w.heap.size w w' := by
  have := reffw_any v P S z F w hv hl hP hF
  rw [hx] at this
  refine this.mono ?_
  rintro e w' ⟨v', u, rfl, h5, h6, h7⟩
  exact ⟨_, rfl, ⟨v', u, rfl, h5, h6⟩, h7⟩
end Go.Proofs.Ytecbelnmdimnkaa
