/-
  Words for the laws' walks: a variable that holds a bridge, what Forward leaves, as predicates on values. No condition.
-/
import Derived.Test.YtecbelnmdimnkaaFwB
import Derived.Test.YtecbelnmdimnkaaFsB
namespace Go.Proofs.Ytecbelnmdimnkaa
open Go.RowKit

/-- the variable block N holds a bridge -/
def VarB (N P : Nat) (K : List Ln) (w : World) : Prop := ∃ s, w.heap[N]? = some (.cells #[.int .i64 (P : Int), s] 27 (0, 0)) ∧ KsT w s K
theorem VarB.below {N P B : Nat} {K : List Ln} {w w' : World} (h : VarB N P K w) (hb : Below B w w') (hB : w.heap.size ≤ B := by first | exact Nat.le_refl _ | simp) : VarB N P K w' := by
  obtain ⟨s, h1, h2⟩ := h
  exact ⟨s, old_below h1 hb (Nat.lt_of_lt_of_le (row_lt h1) hB), h2.below hb hB⟩
theorem VarB.other {N P g : Nat} {K : List Ln} {w w' : World} {C : Array Value} {t : TypeId} {fr : Nat × Nat} (h : VarB N P K w) (hg : w.heap[g]? = some (.cells C t fr)) (ht : t ≠ 58) (hN : N ≠ g) (cs : Array Value) : VarB N P K (w.setRow g cs) := by
  obtain ⟨s, h1, h2⟩ := h
  exact ⟨s, (setRow_other _ _ _ _ hN).trans h1, h2.setRow hg ht cs⟩
theorem VarB.new {P : Nat} {K : List Ln} {w : World} {v : Value} (h : BrT w v P K) : ∃ C, v = .agg C ∧ C.size = 2 ∧ C.all (·.oneCell') = true ∧ ∀ w', w'.heap = (w.alloc (.cells C 27)).heap → VarB w.heap.size P K w' := by
  obtain ⟨s, rfl, hk⟩ := h
  obtain ⟨A, c, rfl, _⟩ := id hk
  refine ⟨_, rfl, rfl, by simp [Value.oneCell'], fun w' hw => ?_⟩
  have h1 := heap_alloc_new w (.cells #[.int .i64 (P : Int), .slice A K.length c] 27)
  refine ⟨_, by rw [hw]; exact h1, (hk.alloc (.cells #[.int .i64 (P : Int), .slice A K.length c] 27)).keep fun g C _ => by rw [hw]⟩
def FwV (P : Nat) (K : List Ln) (L : List Nat) (er : Int) : Pred := fun v w => ∃ v' u, v = .tuple #[v', u, .int .i64 er] ∧ BrT w v' P K ∧ IsT w u L
def BrV (P : Nat) (K : List Ln) : Pred := fun v w => BrT w v P K
def IsV (L : List Nat) : Pred := fun v w => IsT w v L
theorem fwV_mono (P : Nat) (K : List Ln) (L : List Nat) (er : Int) : Mono (FwV P K L er) := fun _ _ _ hb ⟨v', u, e, h1, h2⟩ => ⟨v', u, e, h1.below hb, h2.below hb⟩
theorem brV_mono (P : Nat) (K : List Ln) : Mono (BrV P K) := fun _ _ _ hb h => BrT.below h hb
theorem isV_mono (L : List Nat) : Mono (IsV L) := fun _ _ _ hb h => IsT.below h hb
/-- the bytes of a law's frame -/
def ByP (B : Nat) (v0 : Value) (f : Fm) : Pred := fun v w => (f.raw = [] ∧ w.ownsRow B 5 1 v 14 (cells f.bytes)) ∨ (f.raw ≠ [] ∧ v = v0)
theorem byP_mono (B : Nat) (v0 : Value) (f : Fm) : Mono (ByP B v0 f) := fun _ _ _ hb h => by
  rcases h with ⟨h1, h2⟩ | h
  · exact .inl ⟨h1, ownk_below h2 hb (Nat.le_refl _)⟩
  · exact .inr h
section
variable {w : World} {g : Nat} {C : Array Value} {fr : Nat × Nat}
theorem br_set {v : Value} {P : Nat} {K : List Ln} (h : BrT w v P K) (hg : w.heap[g]? = some (.cells C 27 fr)) (cs : Array Value) : BrT (w.setRow g cs) v P K := by
  obtain ⟨s, e, h1⟩ := h
  exact ⟨s, e, h1.setRow hg (by decide) cs⟩
theorem fw_set {v : Value} {P : Nat} {K : List Ln} {L : List Nat} {er : Int} (h : FwV P K L er v w) (hg : w.heap[g]? = some (.cells C 27 fr)) (cs : Array Value) : FwV P K L er v (w.setRow g cs) := by
  obtain ⟨v', u, e, h1, h2⟩ := h
  exact ⟨v', u, e, br_set h1 hg cs, h2.setRow hg (by decide) cs⟩
theorem is_set {v : Value} {L : List Nat} (h : IsT w v L) (hg : w.heap[g]? = some (.cells C 27 fr)) (cs : Array Value) : IsT (w.setRow g cs) v L := h.setRow hg (by decide) cs
theorem by_set {v v0 : Value} {B : Nat} {f : Fm} (h : ByP B v0 f v w) (hg : w.heap[g]? = some (.cells C 27 fr)) (cs : Array Value) : ByP B v0 f v (w.setRow g cs) := by
  rcases h with ⟨h1, h2⟩ | h
  · exact .inl ⟨h1, ownk_other h2 hg (by decide) fun j hj => setRow_other _ _ _ _ hj⟩
  · exact .inr h
theorem ow_set {v : Value} {B L : Nat} {bs : List UInt8} (h : OwnL B L bs v w) (hg : w.heap[g]? = some (.cells C 27 fr)) (cs : Array Value) : OwnL B L bs v (w.setRow g cs) := by
  obtain ⟨k, c, e, h1⟩ := h
  exact ⟨k, c, e, ownk_other h1 hg (by decide) fun j hj => setRow_other _ _ _ _ hj⟩
end
theorem ByT.ofP {w : World} {v v0 : Value} {B : Nat} {f : Fm} (h : ByP B v0 f v w) (h0 : ByT w v0 f.raw) : ByT w v f.bytes := by
  unfold Fm.bytes at *
  rcases h with ⟨h1, h2⟩ | ⟨h1, rfl⟩
  · rw [if_pos h1]
    refine ByT.own (base := B) ?_
    unfold Fm.bytes at h2
    rw [if_pos h1] at h2
    exact h2
  · rw [if_neg h1]
    exact h0
/-- a frame to be handed to Forward -/
theorem fw_of {v vf : Value} {P : Nat} {K : List Ln} {z : Int} {F : List UInt8} {w : World} {K1 : List Ln} {L1 : List Nat} {er : Int} (hv : BrT w v P K) (hl : K.length ≤ 16) (hP : P ≤ 8) (hf : ByT w vf F) (hx : fwX P K z F = (K1, L1, er)) :
    Calls Try.prog 9 #[v, .int .i64 z, vf] w fun e w' => ∃ v', e = .returned v' ∧ FwV P K1 L1 er v' w' ∧ Below w.heap.size w w' := by
  obtain ⟨A, c, rfl, h1, h2, h3, h4⟩ := hf
  have := fw_any v P K z F A c 0 w.heap.size w hv hl hP h1 (Nat.le_refl _) h3 h4
  rw [hx] at this
  refine this.mono ?_
  rintro e w' ⟨v', u, rfl, h5, h6, h7⟩
  exact ⟨_, rfl, ⟨v', u, rfl, h5, h6⟩, h7⟩
theorem fwX_le {P : Nat} {K : List Ln} {z : Int} {F : List UInt8} (h : K.length ≤ 16) : (fwX P K z F).1.length ≤ 16 := by
  unfold fwX
  split
  · exact h
  · split
    · exact h
    · exact fwK_le _ _ h
theorem byt_frame {w : World} {B : Nat} {v : Value} {d s : Mac} (h : OwnL B 14 (frB d s) v w) : ByT w v (frB d s) := by
  obtain ⟨g, c, rfl, h1⟩ := h
  exact ByT.own h1
/-- a region that calls Forward and lays its bridge into a variable that it makes -/
def NewV (w0 : World) (al st slot P : Nat) (K1 : List Ln) (L : Nat → Bool) (us : Nat → Value) (w' : World) : Prop :=
  Below w0.heap.size w0 w' ∧ (L al = true → ∃ g, us slot = .pointer (some ⟨g, 0, none⟩) ∧ w0.heap.size ≤ g ∧ (L st = false → w'.heap[g]? = some (.cells B2 27 (0, 0))) ∧ (L st = true → VarB g P K1 w'))
section
variable {w0 w' : World} {al st slot P : Nat} {K1 : List Ln} {L : Nat → Bool} {us : Nat → Value}
theorem NewV.agree {L' : Nat → Bool} {us' : Nat → Value} (h : NewV w0 al st slot P K1 L us w') (h1 : L al = L' al) (h2 : L st = L' st) (h3 : us slot = us' slot) : NewV w0 al st slot P K1 L' us' w' := by
  unfold NewV at *
  rw [← h1, ← h2, ← h3]
  exact h
theorem NewV.below {w'' : World} (h : NewV w0 al st slot P K1 L us w') (hb : Below w'.heap.size w' w'') : NewV w0 al st slot P K1 L us w'' := by
  obtain ⟨g1, g2⟩ := h
  refine ⟨g1.trans (hb.mono g1.size), fun h => ?_⟩
  obtain ⟨g, e1, e2, e3, e4⟩ := g2 h
  exact ⟨g, e1, e2, fun h => (hb.block _ (row_lt (e3 h))).trans (e3 h), fun h => (e4 h).below hb⟩
theorem NewV.alloc (h : NewV w0 al st slot P K1 L us w') (hn : L st = false) (hne : st ≠ al) : NewV w0 al st slot P K1 (upd L al) (updV us (some slot) (.pointer (some ⟨w'.heap.size, 0, none⟩))) (w'.alloc (.cells B2 27)) := by
  obtain ⟨g1, g2⟩ := h
  refine ⟨g1.alloc g1.size _, fun _ => ⟨w'.heap.size, by unfold updV; rw [if_pos rfl], g1.size, fun _ => heap_alloc_new w' _, fun h => ?_⟩⟩
  simp only [upd, if_neg hne] at h
  rw [hn] at h
  cases h
theorem NewV.store {g : Nat} {C : Array Value} {v : Value} (h : NewV w0 al st slot P K1 L us w') (ha : L al = true) (hn : L st = false) (hg : us slot = .pointer (some ⟨g, 0, none⟩)) (hb : BrT w' (.agg C) P K1) (hne : st ≠ al) :
    w'.heap[g]? = some (.cells B2 27 (0, 0)) ∧ NewV w0 al st slot P K1 (upd L st) (updV us none v) (w'.setRow g C) := by
  obtain ⟨g1, g2⟩ := h
  obtain ⟨g', e1, e2, e3, -⟩ := g2 ha
  rw [hg] at e1
  injection e1 with e1
  injection e1 with e1
  injection e1 with e1
  subst e1
  have hh := e3 hn
  refine ⟨hh, below_setRow g1 e2 _, fun _ => ⟨g, hg, e2, fun h => ?_, fun _ => ?_⟩⟩
  · simp only [upd, if_pos] at h
    cases h
  · obtain ⟨s, e, hk⟩ := br_set hb hh C
    injection e with e
    exact ⟨s, by rw [← e]; exact setRow_heap _ _ _ _ _ _ hh, hk⟩
end
/-- a region that calls Forward and lays its bridge into a variable that was there -/
def OldV (w0 : World) (N st : Nat) (C0 : Array Value) (P : Nat) (K1 : List Ln) (L : Nat → Bool) (w' : World) : Prop :=
  Gro (· = N) w0 w' ∧ (L st = false → w'.heap[N]? = some (.cells C0 27 (0, 0))) ∧ (L st = true → VarB N P K1 w')
section
variable {w0 w' : World} {N st P : Nat} {C0 : Array Value} {K1 : List Ln} {L : Nat → Bool}
theorem OldV.agree {L' : Nat → Bool} (h : OldV w0 N st C0 P K1 L w') (h2 : L st = L' st) : OldV w0 N st C0 P K1 L' w' := by
  unfold OldV at *
  rw [← h2]
  exact h
theorem OldV.below {w'' : World} (h : OldV w0 N st C0 P K1 L w') (hb : Below w'.heap.size w' w'') : OldV w0 N st C0 P K1 L w'' :=
  ⟨h.1.trans (Gro.of hb), fun hh => (hb.block _ (row_lt (h.2.1 hh))).trans (h.2.1 hh), fun hh => (h.2.2 hh).below hb⟩
theorem OldV.store {C : Array Value} (h : OldV w0 N st C0 P K1 L w') (hn : L st = false) (hb : BrT w' (.agg C) P K1) (hs : C0.size = C.size) :
    w'.heap[N]? = some (.cells C0 27 (0, 0)) ∧ OldV w0 N st C0 P K1 (upd L st) (w'.setRow N C) := by
  have hh := h.2.1 hn
  refine ⟨hh, gro_set h.1 hh hs, fun h => ?_, fun _ => ?_⟩
  · simp only [upd, if_pos] at h
    cases h
  · obtain ⟨s, e, hk⟩ := br_set hb hh C
    injection e with e
    exact ⟨s, by rw [← e]; exact setRow_heap _ _ _ _ _ _ hh, hk⟩
/-- what is read stands while the bridge's variable turns -/
theorem OldV.ks {v : Value} {K : List Ln} (h : OldV w0 N st C0 P K1 L w') (h0 : w0.heap[N]? = some (.cells C0 27 (0, 0))) (hk : KsT w0 v K) : KsT w' v K :=
  hk.keep fun g D hg => h.1.block g (row_lt hg) fun e => by
    subst e
    rw [h0] at hg
    injection hg with hg
    injection hg with _ hg
    exact absurd hg (by decide)
end
theorem BrT.form {w : World} {v : Value} {P : Nat} {K : List Ln} (h : BrT w v P K) : ∃ A n c, v = .agg #[.int .i64 (P : Int), .slice A n c] := by
  obtain ⟨s, rfl, A, c, rfl, _⟩ := h
  exact ⟨A, _, c, rfl⟩
theorem IsT.form {w : World} {v : Value} {L : List Nat} (h : IsT w v L) : ∃ A c, v = .slice A L.length c := by
  obtain ⟨A, c, rfl, _⟩ := h
  exact ⟨A, c, rfl⟩
theorem is_gro {w w' : World} {v : Value} {L : List Nat} {N : Nat} {C : Array Value} {fr : Nat × Nat} (h : IsT w v L) (hg : Gro (· = N) w w') (h0 : w.heap[N]? = some (.cells C 27 fr)) : IsT w' v L :=
  h.keep fun g D hd => hg.block g (row_lt hd) fun e => by
    subst e
    rw [h0] at hd
    injection hd with hd
    injection hd with _ hd
    exact absurd hd (by decide)
theorem ne_mac {w : World} {b N : Nat} {C D : Array Value} {fr fr2 : Nat × Nat} (h : w.heap[b]? = some (.cells C 46 fr)) (h0 : w.heap[N]? = some (.cells D 27 fr2)) : ¬ b = N := fun e => by
  subst e
  rw [h0] at h
  injection h with h
  injection h with _ h
  exact absurd h (by decide)
theorem is_at {w : World} {v : Value} {L : List Nat} {k n : Nat} (h : IsT w v L) (hk : L[k]? = some n) : ∃ ad c, v = .slice (some ad) L.length c ∧ w.cell? (ad.add k) = some (.int .i64 (n : Int)) := by
  obtain ⟨A, c, rfl, h1, _⟩ := h
  obtain ⟨ad, rfl, h2⟩ := int_cells h1 hk
  exact ⟨ad, c, rfl, h2⟩
end Go.Proofs.Ytecbelnmdimnkaa
