/-
  Regions that draw their order, call functions whose answers read as data, and lay these into one or two known variables: what stands meanwhile. No condition.
-/
import Derived.Test.YtebflcpoecolbaaFrm
namespace Go.Proofs.Ytebflcpoecolbaa
open Go.RowKit

/-- a struct that reads as data -/
def Rd1 (S : Nat → Prop) (ds : List Dat) : Pred := fun v w => ∃ C : Array Value, v = .agg C ∧ Rvs w S C.toList ds
theorem rd1_mono (S : Nat → Prop) (ds : List Dat) : Mono (Rd1 S ds) := fun _ _ _ hb ⟨C, e, h⟩ => ⟨C, e, rvs_call h hb⟩
theorem rd1_set {S : Nat → Prop} {ds : List Dat} {u : Value} {w : World} (h : Rd1 S ds u w) {g : Nat} (hg : ¬ S g) (C : Array Value) : Rd1 S ds u (w.setRow g C) := by
  obtain ⟨D, e, h⟩ := h
  exact ⟨D, e, h.setRow hg C⟩
theorem rvs_gro {D S : Nat → Prop} {w w' : World} {us : List Value} {ds : List Dat} (h : Rvs w S us ds) (hG : Gro D w w') (hS : ∀ b, S b → ¬ D b) : Rvs w' S us ds :=
  ((rvs_tight' h).keep (keep_blocks (S := fun b => S b ∧ b < w.heap.size) fun b hb => hG.block b hb.2 (hS b hb.1)) fun _ h => h).wide fun _ h => h.1

/-! ### one variable -/
def OldD1 (w0 : World) (S : Nat → Prop) (st g : Nat) (T : TypeId) (O : Array Value) (D : List Dat) (L : Nat → Bool) (w' : World) : Prop :=
  Gro (· = g) w0 w' ∧ ∃ C, w'.heap[g]? = some (.cells C T (0, 0)) ∧ C.size = O.size ∧ (L st = false → C = O) ∧ (L st = true → Rvs w' S C.toList D)
section
variable {w0 w' : World} {S : Nat → Prop} {st g : Nat} {T : TypeId} {O : Array Value} {D : List Dat} {L : Nat → Bool}
theorem OldD1.agree {L' : Nat → Bool} (h : OldD1 w0 S st g T O D L w') (h1 : L st = L' st) : OldD1 w0 S st g T O D L' w' := by
  unfold OldD1 at *
  rw [← h1]
  exact h
theorem OldD1.below {w'' : World} (h : OldD1 w0 S st g T O D L w') (hb : Below w'.heap.size w' w'') : OldD1 w0 S st g T O D L w'' := by
  obtain ⟨h1, C, h2, h3, h4, h5⟩ := h
  exact ⟨h1.trans (Gro.of hb), C, (hb.block _ (row_lt h2)).trans h2, h3, h4, fun hl => rvs_call (h5 hl) hb⟩
theorem OldD1.old (h : OldD1 w0 S st g T O D L w') (hn : L st = false) : w'.heap[g]? = some (.cells O T (0, 0)) := by
  obtain ⟨_, C, h2, _, h4, _⟩ := h
  rw [h4 hn] at h2
  exact h2
theorem OldD1.keep (h : OldD1 w0 S st g T O D L w') {b : Nat} {o : Obj} (hb : w0.heap[b]? = some o) (hne : b ≠ g) : w'.heap[b]? = some o := (h.1.block b (row_lt hb) hne).trans hb
theorem OldD1.val (h : OldD1 w0 S st g T O D L w') {us : List Value} {ds : List Dat} (hr : Rvs w0 S us ds) (hS : ¬ S g) : Rvs w' S us ds := rvs_gro hr h.1 fun _b hb e => hS (e ▸ hb)
theorem OldD1.store (h : OldD1 w0 S st g T O D L w') (hn : L st = false) {C : Array Value} (hs : C.size = O.size) (hr : Rvs w' S C.toList D) (hS : ¬ S g) : OldD1 w0 S st g T O D (upd L st) (w'.setRow g C) :=
  ⟨gro_set h.1 (h.old hn) hs.symm, C, setRow_heap _ _ _ _ _ _ (h.old hn), hs, fun hl => (by rw [show upd L st st = true from if_pos rfl] at hl; cases hl), fun _ => hr.setRow hS C⟩
theorem OldD1.start (h : w0.heap[g]? = some (.cells O T (0, 0))) : OldD1 w0 S st g T O D (fun _ => false) w0 := ⟨Gro.refl _, O, h, rfl, fun _ => rfl, fun h => (by cases h)⟩
theorem OldD1.done (h : OldD1 w0 S st g T O D (fun _ => true) w') : Gro (· = g) w0 w' ∧ ∃ C, w'.heap[g]? = some (.cells C T (0, 0)) ∧ Rvs w' S C.toList D := by
  obtain ⟨h1, C, h2, _, _, h5⟩ := h
  exact ⟨h1, C, h2, h5 rfl⟩
end

/-! ### two variables -/
def OldD (w0 : World) (S : Nat → Prop) (st1 g1 : Nat) (T1 : TypeId) (O1 : Array Value) (D1 : List Dat) (st2 g2 : Nat) (T2 : TypeId) (O2 : Array Value) (D2 : List Dat) (L : Nat → Bool) (w' : World) : Prop :=
  Gro (fun k => k = g1 ∨ k = g2) w0 w' ∧ (∃ C, w'.heap[g1]? = some (.cells C T1 (0, 0)) ∧ C.size = O1.size ∧ (L st1 = false → C = O1) ∧ (L st1 = true → Rvs w' S C.toList D1)) ∧
    ∃ C, w'.heap[g2]? = some (.cells C T2 (0, 0)) ∧ C.size = O2.size ∧ (L st2 = false → C = O2) ∧ (L st2 = true → Rvs w' S C.toList D2)
section
variable {w0 w' : World} {S : Nat → Prop} {st1 g1 st2 g2 : Nat} {T1 T2 : TypeId} {O1 O2 : Array Value} {D1 D2 : List Dat} {L : Nat → Bool}
theorem OldD.agree {L' : Nat → Bool} (h : OldD w0 S st1 g1 T1 O1 D1 st2 g2 T2 O2 D2 L w') (h1 : L st1 = L' st1) (h2 : L st2 = L' st2) : OldD w0 S st1 g1 T1 O1 D1 st2 g2 T2 O2 D2 L' w' := by
  unfold OldD at *
  rw [← h1, ← h2]
  exact h
theorem OldD.below {w'' : World} (h : OldD w0 S st1 g1 T1 O1 D1 st2 g2 T2 O2 D2 L w') (hb : Below w'.heap.size w' w'') : OldD w0 S st1 g1 T1 O1 D1 st2 g2 T2 O2 D2 L w'' := by
  obtain ⟨h1, ⟨C, h2, h3, h4, h5⟩, E, k2, k3, k4, k5⟩ := h
  exact ⟨h1.trans (Gro.of hb), ⟨C, (hb.block _ (row_lt h2)).trans h2, h3, h4, fun hl => rvs_call (h5 hl) hb⟩, E, (hb.block _ (row_lt k2)).trans k2, k3, k4, fun hl => rvs_call (k5 hl) hb⟩
theorem OldD.old1 (h : OldD w0 S st1 g1 T1 O1 D1 st2 g2 T2 O2 D2 L w') (hn : L st1 = false) : w'.heap[g1]? = some (.cells O1 T1 (0, 0)) := by
  obtain ⟨_, ⟨C, h2, _, h4, _⟩, _⟩ := h
  rw [h4 hn] at h2
  exact h2
theorem OldD.old2 (h : OldD w0 S st1 g1 T1 O1 D1 st2 g2 T2 O2 D2 L w') (hn : L st2 = false) : w'.heap[g2]? = some (.cells O2 T2 (0, 0)) := by
  obtain ⟨_, _, C, h2, _, h4, _⟩ := h
  rw [h4 hn] at h2
  exact h2
theorem OldD.keep (h : OldD w0 S st1 g1 T1 O1 D1 st2 g2 T2 O2 D2 L w') {b : Nat} {o : Obj} (hb : w0.heap[b]? = some o) (hne : b ≠ g1) (hne2 : b ≠ g2) : w'.heap[b]? = some o := (h.1.block b (row_lt hb) fun e => by rcases e with e | e <;> contradiction).trans hb
theorem OldD.val (h : OldD w0 S st1 g1 T1 O1 D1 st2 g2 T2 O2 D2 L w') {us : List Value} {ds : List Dat} (hr : Rvs w0 S us ds) (hS1 : ¬ S g1) (hS2 : ¬ S g2) : Rvs w' S us ds := rvs_gro hr h.1 fun b hb e => by
  rcases e with rfl | rfl
  · exact hS1 hb
  · exact hS2 hb
theorem OldD.store1 (h : OldD w0 S st1 g1 T1 O1 D1 st2 g2 T2 O2 D2 L w') (hn : L st1 = false) {C : Array Value} (hs : C.size = O1.size) (hr : Rvs w' S C.toList D1) (hS1 : ¬ S g1) (hg : g1 ≠ g2) (hne : st2 ≠ st1) : OldD w0 S st1 g1 T1 O1 D1 st2 g2 T2 O2 D2 (upd L st1) (w'.setRow g1 C) := by
  have ho := h.old1 hn
  obtain ⟨h1, _, E, k2, k3, k4, k5⟩ := h
  refine ⟨groD_set h1 (.inl rfl) ho hs.symm, ⟨C, setRow_heap _ _ _ _ _ _ ho, hs, fun hl => (by rw [show upd L st1 st1 = true from if_pos rfl] at hl; cases hl), fun _ => hr.setRow hS1 C⟩, E, (setRow_other _ _ _ _ (Ne.symm hg)).trans k2, k3, ?_, ?_⟩
  · rw [show upd L st1 st2 = L st2 from if_neg hne]
    exact k4
  · rw [show upd L st1 st2 = L st2 from if_neg hne]
    exact fun hl => (k5 hl).setRow hS1 C
theorem OldD.store2 (h : OldD w0 S st1 g1 T1 O1 D1 st2 g2 T2 O2 D2 L w') (hn : L st2 = false) {C : Array Value} (hs : C.size = O2.size) (hr : Rvs w' S C.toList D2) (hS2 : ¬ S g2) (hg : g1 ≠ g2) (hne : st1 ≠ st2) : OldD w0 S st1 g1 T1 O1 D1 st2 g2 T2 O2 D2 (upd L st2) (w'.setRow g2 C) := by
  have ho := h.old2 hn
  obtain ⟨h1, ⟨E, k2, k3, k4, k5⟩, _⟩ := h
  refine ⟨groD_set h1 (.inr rfl) ho hs.symm, ⟨E, (setRow_other _ _ _ _ hg).trans k2, k3, ?_, ?_⟩, C, setRow_heap _ _ _ _ _ _ ho, hs, fun hl => (by rw [show upd L st2 st2 = true from if_pos rfl] at hl; cases hl), fun _ => hr.setRow hS2 C⟩
  · rw [show upd L st2 st1 = L st1 from if_neg hne]
    exact k4
  · rw [show upd L st2 st1 = L st1 from if_neg hne]
    exact fun hl => (k5 hl).setRow hS2 C
theorem OldD.start (h1 : w0.heap[g1]? = some (.cells O1 T1 (0, 0))) (h2 : w0.heap[g2]? = some (.cells O2 T2 (0, 0))) : OldD w0 S st1 g1 T1 O1 D1 st2 g2 T2 O2 D2 (fun _ => false) w0 :=
  ⟨Gro.refl _, ⟨O1, h1, rfl, fun _ => rfl, fun h => (by cases h)⟩, O2, h2, rfl, fun _ => rfl, fun h => (by cases h)⟩
theorem OldD.done (h : OldD w0 S st1 g1 T1 O1 D1 st2 g2 T2 O2 D2 (fun _ => true) w') : Gro (fun k => k = g1 ∨ k = g2) w0 w' ∧ (∃ C, w'.heap[g1]? = some (.cells C T1 (0, 0)) ∧ Rvs w' S C.toList D1) ∧ ∃ C, w'.heap[g2]? = some (.cells C T2 (0, 0)) ∧ Rvs w' S C.toList D2 := by
  obtain ⟨h1, ⟨C, h2, _, _, h5⟩, E, k2, _, _, k5⟩ := h
  exact ⟨h1, ⟨C, h2, h5 rfl⟩, E, k2, k5 rfl⟩
end
end Go.Proofs.Ytebflcpoecolbaa
