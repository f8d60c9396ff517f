/-
  Regions that draw their order and store into one or two known variables, or make two variables and store into them: what stands meanwhile. No condition.
-/
import Derived.Test.YtebflcpoecolbaaElem
import Derived.Test.YtebflcpoecolbaaRelyV
namespace Go.Proofs.Ytebflcpoecolbaa
open Go.RowKit

theorem rely_load {P : Program} {ev : Operand → Value} {o : Oper} {w : World} (ty : TypeId) (x : Operand) (ho : o.op = .load ty x) {ad : Addr} (hx : ev x = .pointer (some ad)) {v : Value} (hl : (loadVar ty ad).run P w = .ok v w) : (execOp ev o).run P w = .ok (.value v) w := by
  unfold execOp
  simp only [ho, hx, Instr.loadAt, Instr.sureAddr, Sem.run_bind, Sem.run_pure, Result.andThen_ok, hl]
theorem rely_store {P : Program} {ev : Operand → Value} {o : Oper} {w w' : World} (ty : TypeId) (x y : Operand) (ho : o.op = .store ty x y) {ad : Addr} (hx : ev x = .pointer (some ad)) {v : Value} (hy : ev y = v) (hl : (storeVar ty ad v).run P w = .ok () w') : (execOp ev o).run P w = .ok .skip w' := by
  unfold execOp
  simp only [ho, hx, hy, Instr.storeAt, Instr.sureAddr, Sem.run_bind, Sem.run_pure, Result.andThen_ok, hl]
theorem groD_set {D : Nat → Prop} {a b : World} {g : Nat} (h : Gro D a b) (hg : D g) {old cs : Array Value} {t : TypeId} {fr : Nat × Nat} (hb : b.heap[g]? = some (.cells old t fr)) (hs : old.size = cs.size) : Gro D a (b.setRow g cs) := by
  refine ⟨h.os, h.tape, h.output, by simp [World.setRow]; exact h.size, fun k hk hx => (setRow_other b g k cs (fun e => hx (by rw [e]; exact hg))).trans (h.block k hk hx), fun k c0 t0 f0 hk => ?_⟩
  obtain ⟨c1, e1, e2⟩ := h.shape k c0 t0 f0 hk
  by_cases hkg : k = g
  · subst hkg
    rw [hb] at e1
    injection e1 with e1
    injection e1 with a1 a2 a3
    subst a1 a2 a3
    exact ⟨cs, setRow_heap _ _ _ _ _ _ hb, hs.symm.trans e2⟩
  · exact ⟨c1, (setRow_other b g k cs hkg).trans e1, e2⟩

/-! ### one known variable -/
def OldO (w0 : World) (st g : Nat) (T : TypeId) (O C : Array Value) (L : Nat → Bool) (w' : World) : Prop :=
  Gro (· = g) w0 w' ∧ w'.heap[g]? = some (.cells (if L st = true then C else O) T (0, 0))
section
variable {w0 w' : World} {st g : Nat} {T : TypeId} {O C : Array Value} {L : Nat → Bool}
theorem OldO.agree {L' : Nat → Bool} (h : OldO w0 st g T O C L w') (h2 : L st = L' st) : OldO w0 st g T O C L' w' := by
  unfold OldO at *
  rw [← h2]
  exact h
theorem OldO.below {w'' : World} (h : OldO w0 st g T O C L w') (hb : Below w'.heap.size w' w'') : OldO w0 st g T O C L w'' :=
  ⟨h.1.trans (Gro.of hb), (hb.block _ (row_lt h.2)).trans h.2⟩
theorem OldO.old (h : OldO w0 st g T O C L w') (hn : L st = false) : w'.heap[g]? = some (.cells O T (0, 0)) := by
  have := h.2
  rw [hn] at this
  exact this
theorem OldO.store (h : OldO w0 st g T O C L w') (hn : L st = false) (hs : O.size = C.size) : OldO w0 st g T O C (upd L st) (w'.setRow g C) := by
  refine ⟨gro_set h.1 (h.old hn) hs, ?_⟩
  rw [show upd L st st = true from if_pos rfl]
  exact setRow_heap _ _ _ _ _ _ (h.old hn)
theorem OldO.start (h : w0.heap[g]? = some (.cells O T (0, 0))) : OldO w0 st g T O C (fun _ => false) w0 := ⟨Gro.refl _, h⟩
theorem OldO.keep (h : OldO w0 st g T O C L w') {b : Nat} {o : Obj} (hb : w0.heap[b]? = some o) (hne : b ≠ g) : w'.heap[b]? = some o := (h.1.block b (row_lt hb) hne).trans hb
end

/-! ### two known variables -/
def OldT (w0 : World) (st1 g1 : Nat) (T1 : TypeId) (O1 C1 : Array Value) (st2 g2 : Nat) (T2 : TypeId) (O2 C2 : Array Value) (L : Nat → Bool) (w' : World) : Prop :=
  Gro (fun k => k = g1 ∨ k = g2) w0 w' ∧ w'.heap[g1]? = some (.cells (if L st1 = true then C1 else O1) T1 (0, 0)) ∧ w'.heap[g2]? = some (.cells (if L st2 = true then C2 else O2) T2 (0, 0))
section
variable {w0 w' : World} {st1 g1 st2 g2 : Nat} {T1 T2 : TypeId} {O1 C1 O2 C2 : Array Value} {L : Nat → Bool}
theorem OldT.agree {L' : Nat → Bool} (h : OldT w0 st1 g1 T1 O1 C1 st2 g2 T2 O2 C2 L w') (h1 : L st1 = L' st1) (h2 : L st2 = L' st2) : OldT w0 st1 g1 T1 O1 C1 st2 g2 T2 O2 C2 L' w' := by
  unfold OldT at *
  rw [← h1, ← h2]
  exact h
theorem OldT.below {w'' : World} (h : OldT w0 st1 g1 T1 O1 C1 st2 g2 T2 O2 C2 L w') (hb : Below w'.heap.size w' w'') : OldT w0 st1 g1 T1 O1 C1 st2 g2 T2 O2 C2 L w'' :=
  ⟨h.1.trans (Gro.of hb), (hb.block _ (row_lt h.2.1)).trans h.2.1, (hb.block _ (row_lt h.2.2)).trans h.2.2⟩
theorem OldT.old1 (h : OldT w0 st1 g1 T1 O1 C1 st2 g2 T2 O2 C2 L w') (hn : L st1 = false) : w'.heap[g1]? = some (.cells O1 T1 (0, 0)) := by
  have := h.2.1
  rw [hn] at this
  exact this
theorem OldT.old2 (h : OldT w0 st1 g1 T1 O1 C1 st2 g2 T2 O2 C2 L w') (hn : L st2 = false) : w'.heap[g2]? = some (.cells O2 T2 (0, 0)) := by
  have := h.2.2
  rw [hn] at this
  exact this
theorem OldT.store1 (h : OldT w0 st1 g1 T1 O1 C1 st2 g2 T2 O2 C2 L w') (hn : L st1 = false) (hs : O1.size = C1.size) (hg : g1 ≠ g2) (hne : st2 ≠ st1) : OldT w0 st1 g1 T1 O1 C1 st2 g2 T2 O2 C2 (upd L st1) (w'.setRow g1 C1) := by
  refine ⟨groD_set h.1 (.inl rfl) (h.old1 hn) hs, ?_, ?_⟩
  · rw [show upd L st1 st1 = true from if_pos rfl]
    exact setRow_heap _ _ _ _ _ _ (h.old1 hn)
  · rw [show upd L st1 st2 = L st2 from if_neg hne, setRow_other _ _ _ _ (Ne.symm hg)]
    exact h.2.2
theorem OldT.store2 (h : OldT w0 st1 g1 T1 O1 C1 st2 g2 T2 O2 C2 L w') (hn : L st2 = false) (hs : O2.size = C2.size) (hg : g1 ≠ g2) (hne : st1 ≠ st2) : OldT w0 st1 g1 T1 O1 C1 st2 g2 T2 O2 C2 (upd L st2) (w'.setRow g2 C2) := by
  refine ⟨groD_set h.1 (.inr rfl) (h.old2 hn) hs, ?_, ?_⟩
  · rw [show upd L st2 st1 = L st1 from if_neg hne, setRow_other _ _ _ _ hg]
    exact h.2.1
  · rw [show upd L st2 st2 = true from if_pos rfl]
    exact setRow_heap _ _ _ _ _ _ (h.old2 hn)
theorem OldT.start (h1 : w0.heap[g1]? = some (.cells O1 T1 (0, 0))) (h2 : w0.heap[g2]? = some (.cells O2 T2 (0, 0))) : OldT w0 st1 g1 T1 O1 C1 st2 g2 T2 O2 C2 (fun _ => false) w0 := ⟨Gro.refl _, h1, h2⟩
theorem OldT.keep (h : OldT w0 st1 g1 T1 O1 C1 st2 g2 T2 O2 C2 L w') {b : Nat} {o : Obj} (hb : w0.heap[b]? = some o) (hne : b ≠ g1) (hne2 : b ≠ g2) : w'.heap[b]? = some o := (h.1.block b (row_lt hb) fun e => by rcases e with e | e <;> contradiction).trans hb
end

/-! ### two new variables -/
def NewT (w0 : World) (al1 st1 s1 : Nat) (T1 : TypeId) (Z1 C1 : Array Value) (al2 st2 s2 : Nat) (T2 : TypeId) (Z2 C2 : Array Value) (L : Nat → Bool) (us : Nat → Value) (w' : World) : Prop :=
  Below w0.heap.size w0 w' ∧ (L al1 = true → ∃ g, us s1 = .pointer (some ⟨g, 0, none⟩) ∧ w0.heap.size ≤ g ∧ w'.heap[g]? = some (.cells (if L st1 = true then C1 else Z1) T1 (0, 0))) ∧
    (L al2 = true → ∃ g, us s2 = .pointer (some ⟨g, 0, none⟩) ∧ w0.heap.size ≤ g ∧ w'.heap[g]? = some (.cells (if L st2 = true then C2 else Z2) T2 (0, 0))) ∧ (L al1 = true → L al2 = true → us s1 ≠ us s2)
section
variable {w0 w' : World} {al1 st1 s1 al2 st2 s2 : Nat} {T1 T2 : TypeId} {Z1 C1 Z2 C2 : Array Value} {L : Nat → Bool} {us : Nat → Value}
theorem NewT.agree {L' : Nat → Bool} {us' : Nat → Value} (h : NewT w0 al1 st1 s1 T1 Z1 C1 al2 st2 s2 T2 Z2 C2 L us w') (h1 : L al1 = L' al1) (h2 : L st1 = L' st1) (h3 : us s1 = us' s1) (h4 : L al2 = L' al2) (h5 : L st2 = L' st2) (h6 : us s2 = us' s2) : NewT w0 al1 st1 s1 T1 Z1 C1 al2 st2 s2 T2 Z2 C2 L' us' w' := by
  unfold NewT at *
  rw [← h1, ← h2, ← h3, ← h4, ← h5, ← h6]
  exact h
theorem NewT.below {w'' : World} (h : NewT w0 al1 st1 s1 T1 Z1 C1 al2 st2 s2 T2 Z2 C2 L us w') (hb : Below w'.heap.size w' w'') : NewT w0 al1 st1 s1 T1 Z1 C1 al2 st2 s2 T2 Z2 C2 L us w'' := by
  obtain ⟨g1, g2, g3, g4⟩ := h
  refine ⟨g1.trans (hb.mono g1.size), fun h => ?_, fun h => ?_, g4⟩
  · obtain ⟨g, e1, e2, e3⟩ := g2 h
    exact ⟨g, e1, e2, (hb.block _ (row_lt e3)).trans e3⟩
  · obtain ⟨g, e1, e2, e3⟩ := g3 h
    exact ⟨g, e1, e2, (hb.block _ (row_lt e3)).trans e3⟩
theorem ptr_ne {w : World} {g : Nat} {o : Obj} {v : Value} (h : w.heap[g]? = some o) (hv : v = .pointer (some ⟨g, 0, none⟩)) : Value.pointer (some ⟨w.heap.size, 0, none⟩) ≠ v := by
  rw [hv]
  have := row_lt h
  intro e
  injection e with e
  injection e with e
  injection e with e
  omega
theorem ptr_inj {v : Value} {g g' : Nat} (h : v = .pointer (some ⟨g, 0, none⟩)) (k : v = .pointer (some ⟨g', 0, none⟩)) : g = g' := by
  rw [h] at k
  injection k with k
  injection k with k
  injection k
theorem NewT.alloc1 (h : NewT w0 al1 st1 s1 T1 Z1 C1 al2 st2 s2 T2 Z2 C2 L us w') (hn : L st1 = false) (h1 : st1 ≠ al1) (h2 : al2 ≠ al1) (h3 : st2 ≠ al1) (hs : s2 ≠ s1) :
    NewT w0 al1 st1 s1 T1 Z1 C1 al2 st2 s2 T2 Z2 C2 (upd L al1) (updV us (some s1) (.pointer (some ⟨w'.heap.size, 0, none⟩))) (w'.alloc (.cells Z1 T1)) := by
  obtain ⟨g1, g2, g3, g4⟩ := h
  have q1 : upd L al1 st1 = false := (if_neg h1).trans hn
  have q2 : upd L al1 al2 = L al2 := if_neg h2
  have q3 : upd L al1 st2 = L st2 := if_neg h3
  have u1 : updV us (some s1) (.pointer (some ⟨w'.heap.size, 0, none⟩)) s1 = .pointer (some ⟨w'.heap.size, 0, none⟩) := if_pos rfl
  have u2 : updV us (some s1) (.pointer (some ⟨w'.heap.size, 0, none⟩)) s2 = us s2 := if_neg (fun e => hs (by injection e with e; exact e.symm))
  unfold NewT
  rw [q1, q2, q3, u1, u2]
  refine ⟨g1.alloc g1.size _, fun _ => ⟨w'.heap.size, rfl, g1.size, ?_⟩, fun h => ?_, fun _ h => ?_⟩
  · rw [if_neg (by decide)]
    exact heap_alloc_new w' _
  · obtain ⟨g, e1, e2, e3⟩ := g3 h
    exact ⟨g, e1, e2, old_alloc e3 _⟩
  · obtain ⟨g, e1, e2, e3⟩ := g3 h
    exact ptr_ne e3 e1
theorem NewT.alloc2 (h : NewT w0 al1 st1 s1 T1 Z1 C1 al2 st2 s2 T2 Z2 C2 L us w') (hn : L st2 = false) (h1 : st2 ≠ al2) (h2 : al1 ≠ al2) (h3 : st1 ≠ al2) (hs : s1 ≠ s2) :
    NewT w0 al1 st1 s1 T1 Z1 C1 al2 st2 s2 T2 Z2 C2 (upd L al2) (updV us (some s2) (.pointer (some ⟨w'.heap.size, 0, none⟩))) (w'.alloc (.cells Z2 T2)) := by
  obtain ⟨g1, g2, g3, g4⟩ := h
  have q1 : upd L al2 st2 = false := (if_neg h1).trans hn
  have q2 : upd L al2 al1 = L al1 := if_neg h2
  have q3 : upd L al2 st1 = L st1 := if_neg h3
  have u1 : updV us (some s2) (.pointer (some ⟨w'.heap.size, 0, none⟩)) s2 = .pointer (some ⟨w'.heap.size, 0, none⟩) := if_pos rfl
  have u2 : updV us (some s2) (.pointer (some ⟨w'.heap.size, 0, none⟩)) s1 = us s1 := if_neg (fun e => hs (by injection e with e; exact e.symm))
  unfold NewT
  rw [q1, q2, q3, u1, u2]
  refine ⟨g1.alloc g1.size _, fun h => ?_, fun _ => ⟨w'.heap.size, rfl, g1.size, ?_⟩, fun h _ => ?_⟩
  · obtain ⟨g, e1, e2, e3⟩ := g2 h
    exact ⟨g, e1, e2, old_alloc e3 _⟩
  · rw [if_neg (by decide)]
    exact heap_alloc_new w' _
  · obtain ⟨g, e1, e2, e3⟩ := g2 h
    exact (ptr_ne e3 e1).symm
theorem NewT.store1 {g : Nat} {v : Value} (h : NewT w0 al1 st1 s1 T1 Z1 C1 al2 st2 s2 T2 Z2 C2 L us w') (ha : L al1 = true) (hn : L st1 = false) (hg : us s1 = .pointer (some ⟨g, 0, none⟩)) (h1 : al1 ≠ st1) (h2 : al2 ≠ st1) (h3 : st2 ≠ st1) :
    w'.heap[g]? = some (.cells Z1 T1 (0, 0)) ∧ NewT w0 al1 st1 s1 T1 Z1 C1 al2 st2 s2 T2 Z2 C2 (upd L st1) (updV us none v) (w'.setRow g C1) := by
  obtain ⟨g1, g2, g3, g4⟩ := h
  obtain ⟨g', e1, e2, e3⟩ := g2 ha
  obtain rfl := ptr_inj hg e1
  rw [hn] at e3
  refine ⟨e3, ?_⟩
  have q0 : upd L st1 st1 = true := if_pos rfl
  have q1 : upd L st1 al1 = L al1 := if_neg h1
  have q2 : upd L st1 al2 = L al2 := if_neg h2
  have q3 : upd L st1 st2 = L st2 := if_neg h3
  unfold NewT
  rw [q0, q1, q2, q3]
  refine ⟨below_setRow g1 e2 _, fun _ => ⟨g, hg, e2, setRow_heap _ _ _ _ _ _ e3⟩, fun h => ?_, g4⟩
  obtain ⟨g', f1, f2, f3⟩ := g3 h
  refine ⟨g', f1, f2, (setRow_other w' g g' _ fun e => ?_).trans f3⟩
  subst e
  exact g4 ha h (hg.trans f1.symm)
theorem NewT.store2 {g : Nat} {v : Value} (h : NewT w0 al1 st1 s1 T1 Z1 C1 al2 st2 s2 T2 Z2 C2 L us w') (ha : L al2 = true) (hn : L st2 = false) (hg : us s2 = .pointer (some ⟨g, 0, none⟩)) (h1 : al2 ≠ st2) (h2 : al1 ≠ st2) (h3 : st1 ≠ st2) :
    w'.heap[g]? = some (.cells Z2 T2 (0, 0)) ∧ NewT w0 al1 st1 s1 T1 Z1 C1 al2 st2 s2 T2 Z2 C2 (upd L st2) (updV us none v) (w'.setRow g C2) := by
  obtain ⟨g1, g2, g3, g4⟩ := h
  obtain ⟨g', e1, e2, e3⟩ := g3 ha
  obtain rfl := ptr_inj hg e1
  rw [hn] at e3
  refine ⟨e3, ?_⟩
  have q0 : upd L st2 st2 = true := if_pos rfl
  have q1 : upd L st2 al2 = L al2 := if_neg h1
  have q2 : upd L st2 al1 = L al1 := if_neg h2
  have q3 : upd L st2 st1 = L st1 := if_neg h3
  unfold NewT
  rw [q0, q1, q2, q3]
  refine ⟨below_setRow g1 e2 _, fun h => ?_, fun _ => ⟨g, hg, e2, setRow_heap _ _ _ _ _ _ e3⟩, g4⟩
  obtain ⟨g', f1, f2, f3⟩ := g2 h
  refine ⟨g', f1, f2, (setRow_other w' g g' _ fun e => ?_).trans f3⟩
  subst e
  exact g4 h ha (f1.trans hg.symm)
theorem NewT.start {u : Nat → Value} : NewT w0 al1 st1 s1 T1 Z1 C1 al2 st2 s2 T2 Z2 C2 (fun _ => false) u w0 := ⟨Below.refl _ _, fun h => (by cases h), fun h => (by cases h), fun h => (by cases h)⟩
end
end Go.Proofs.Ytebflcpoecolbaa
