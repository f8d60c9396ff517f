/-
  Regions that draw their order and end in 'x, m, n := f(..)', f's first answer a struct that reads as data, laid into a new variable: what stands meanwhile. No condition.
-/
import Derived.Test.YtebflcpoecolbaaTwe
import Derived.Test.YtebflcpoecolbaaRelyV
namespace Go.Proofs.Ytebflcpoecolbaa
open Go.RowKit

/-- ca: the call; mv: its answer moved; ex: the struct taken out of it; al: the variable made; st: the struct laid into it; sc, sm, se, sa: the slots of the first four -/
structure NewC (w0 : World) (S : Nat → Prop) (ca mv ex al st sc sm se sa : Nat) (T : TypeId) (Z : Array Value) (D : List Dat) (tl : Array Value) (L : Nat → Bool) (us : Nat → Value) (w : World) : Prop where
  below : Below w0.heap.size w0 w
  call : L ca = true → ∃ C : Array Value, us sc = .tuple (#[.agg C] ++ tl) ∧ Rvs w (fun b => S b ∧ (L al = true → us sa ≠ .pointer (some ⟨b, 0, none⟩))) C.toList D
  move : L mv = true → L ca = true ∧ us sm = us sc
  extr : L ex = true → L mv = true ∧ ∃ C : Array Value, us sc = .tuple (#[.agg C] ++ tl) ∧ us se = .agg C
  var : L al = true → ∃ (g : Nat) (C : Array Value), us sa = .pointer (some ⟨g, 0, none⟩) ∧ w0.heap.size ≤ g ∧ w.heap[g]? = some (.cells C T (0, 0)) ∧ C.size = Z.size ∧ (L st = false → C = Z) ∧ (L st = true → Rvs w (fun b => S b ∧ b ≠ g) C.toList D)
section
variable {w0 w w' : World} {S : Nat → Prop} {ca mv ex al st sc sm se sa : Nat} {T : TypeId} {Z : Array Value} {D : List Dat} {tl : Array Value} {L : Nat → Bool} {us : Nat → Value}
theorem NewC.agree {L' : Nat → Bool} {us' : Nat → Value} (h : NewC w0 S ca mv ex al st sc sm se sa T Z D tl L us w) (h1 : L ca = L' ca) (h2 : L mv = L' mv) (h3 : L ex = L' ex) (h4 : L al = L' al) (h5 : L st = L' st) (k1 : us sc = us' sc) (k2 : us sm = us' sm) (k3 : us se = us' se) (k4 : us sa = us' sa) : NewC w0 S ca mv ex al st sc sm se sa T Z D tl L' us' w := by
  obtain ⟨a, b, c, d, e⟩ := h
  constructor
  · exact a
  · rw [← h1, ← h4, ← k1, ← k4]; exact b
  · rw [← h1, ← h2, ← k1, ← k2]; exact c
  · rw [← h2, ← h3, ← k1, ← k3]; exact d
  · rw [← h4, ← h5, ← k4]; exact e
theorem NewC.under (h : NewC w0 S ca mv ex al st sc sm se sa T Z D tl L us w) (hb : Below w.heap.size w w') : NewC w0 S ca mv ex al st sc sm se sa T Z D tl L us w' :=
  ⟨h.below.trans (hb.mono h.below.size), fun hl => by
    obtain ⟨C, e, hr⟩ := h.call hl
    exact ⟨C, e, rvs_call hr hb⟩, h.move, h.extr, fun hl => by
    obtain ⟨g, C, e, h1, h2, h3, h4, h5⟩ := h.var hl
    exact ⟨g, C, e, h1, old_below h2 hb (row_lt h2), h3, h4, fun hs => rvs_call (h5 hs) hb⟩⟩
theorem NewC.start {us : Nat → Value} : NewC w0 S ca mv ex al st sc sm se sa T Z D tl (fun _ => false) us w0 := ⟨Below.refl _ _, fun h => (by cases h), fun h => (by cases h), fun h => (by cases h), fun h => (by cases h)⟩
/-- the call is done -/
theorem NewC.called (h : NewC w0 S ca mv ex al st sc sm se sa T Z D tl L us w) (hn : L ca = false) (hbig : ∀ b, w0.heap.size ≤ b → S b) (hb : Below w.heap.size w w') {C : Array Value} (hr : Rvs w' (fun b => (S b ∧ b < w0.heap.size) ∨ w.heap.size ≤ b) C.toList D)
    (d1 : mv ≠ ca) (d2 : ex ≠ ca) (d3 : al ≠ ca) (d4 : st ≠ ca) (d5 : sa ≠ sc) : NewC w0 S ca mv ex al st sc sm se sa T Z D tl (upd L ca) (updV us (some sc) (.tuple (#[.agg C] ++ tl))) w' := by
  have k := h.under hb
  have q1 : upd L ca mv = L mv := if_neg d1
  have q2 : upd L ca ex = L ex := if_neg d2
  have q3 : upd L ca al = L al := if_neg d3
  have q4 : upd L ca st = L st := if_neg d4
  have u1 : updV us (some sc) (.tuple (#[.agg C] ++ tl)) sc = .tuple (#[.agg C] ++ tl) := if_pos rfl
  have u2 : updV us (some sc) (.tuple (#[.agg C] ++ tl)) sa = us sa := if_neg (fun e => d5 (by injection e with e; exact e.symm))
  have hm : L mv = false := Bool.eq_false_iff.2 fun hm => by rw [(h.move hm).1] at hn; cases hn
  have he : L ex = false := Bool.eq_false_iff.2 fun he => by rw [(h.extr he).1] at hm; cases hm
  refine ⟨k.below, fun _ => ⟨C, u1, hr.wide fun b hb2 => ⟨?_, fun hl => ?_⟩⟩, fun hl => ?_, fun hl => ?_, fun hl => ?_⟩
  · rcases hb2 with hb2 | hb2
    · exact hb2.1
    · exact hbig b (Nat.le_trans h.below.size hb2)
  · rw [q3] at hl
    rw [u2]
    obtain ⟨g, C2, e, h1, h2, _⟩ := h.var hl
    have h3 := row_lt h2
    rw [e]
    intro e2
    injection e2 with e2
    injection e2 with e2
    injection e2 with e2
    rcases hb2 with hb2 | hb2
    · have := hb2.2
      omega
    · omega
  · rw [q1, hm] at hl
    cases hl
  · rw [q2, he] at hl
    cases hl
  · rw [q3] at hl
    rw [u2, q4]
    exact k.var hl
/-- its answer is moved -/
theorem NewC.moved (h : NewC w0 S ca mv ex al st sc sm se sa T Z D tl L us w) (hn : L mv = false) (hc : L ca = true) (d1 : ca ≠ mv) (d2 : ex ≠ mv) (d3 : al ≠ mv) (d4 : st ≠ mv) (d5 : sc ≠ sm) (d6 : sa ≠ sm) : NewC w0 S ca mv ex al st sc sm se sa T Z D tl (upd L mv) (updV us (some sm) (us sc)) w := by
  have q1 : upd L mv ca = L ca := if_neg d1
  have q2 : upd L mv ex = L ex := if_neg d2
  have q3 : upd L mv al = L al := if_neg d3
  have q4 : upd L mv st = L st := if_neg d4
  have u1 : updV us (some sm) (us sc) sc = us sc := if_neg (fun e => d5 (by injection e with e; exact e.symm))
  have u2 : updV us (some sm) (us sc) sa = us sa := if_neg (fun e => d6 (by injection e with e; exact e.symm))
  have u3 : updV us (some sm) (us sc) sm = us sc := if_pos rfl
  have he : L ex = false := Bool.eq_false_iff.2 fun he => by rw [(h.extr he).1] at hn; cases hn
  refine ⟨h.below, fun hl => ?_, fun _ => ⟨by rw [q1]; exact hc, by rw [u1, u3]⟩, fun hl => ?_, fun hl => ?_⟩
  · rw [u1, u2, q3]
    exact h.call hc
  · rw [q2, he] at hl
    cases hl
  · rw [q3] at hl
    rw [u2, q4]
    exact h.var hl
/-- the struct is taken out -/
theorem NewC.taken (h : NewC w0 S ca mv ex al st sc sm se sa T Z D tl L us w) (hm : L mv = true) {C : Array Value} (hC : us sc = .tuple (#[.agg C] ++ tl)) (d1 : ca ≠ ex) (d2 : mv ≠ ex) (d3 : al ≠ ex) (d4 : st ≠ ex) (d5 : sc ≠ se) (d6 : sm ≠ se) (d7 : sa ≠ se) : NewC w0 S ca mv ex al st sc sm se sa T Z D tl (upd L ex) (updV us (some se) (.agg C)) w := by
  have q1 : upd L ex ca = L ca := if_neg d1
  have q2 : upd L ex mv = L mv := if_neg d2
  have q3 : upd L ex al = L al := if_neg d3
  have q4 : upd L ex st = L st := if_neg d4
  have u1 : updV us (some se) (.agg C) sc = us sc := if_neg (fun e => d5 (by injection e with e; exact e.symm))
  have u2 : updV us (some se) (.agg C) sm = us sm := if_neg (fun e => d6 (by injection e with e; exact e.symm))
  have u3 : updV us (some se) (.agg C) sa = us sa := if_neg (fun e => d7 (by injection e with e; exact e.symm))
  have u4 : updV us (some se) (.agg C) se = .agg C := if_pos rfl
  refine ⟨h.below, fun hl => ?_, fun hl => ?_, fun _ => ⟨by rw [q2]; exact hm, C, by rw [u1]; exact hC, u4⟩, fun hl => ?_⟩
  · rw [q1] at hl
    rw [u1, u3, q3]
    exact h.call hl
  · rw [q2] at hl
    rw [u1, u2, q1]
    exact h.move hl
  · rw [q3] at hl
    rw [u3, q4]
    exact h.var hl
/-- the variable is made -/
theorem NewC.made (h : NewC w0 S ca mv ex al st sc sm se sa T Z D tl L us w) (_hn : L al = false) (hst : L st = false) (d1 : ca ≠ al) (d2 : mv ≠ al) (d3 : ex ≠ al) (d4 : st ≠ al) (d5 : sc ≠ sa) (d6 : sm ≠ sa) (d7 : se ≠ sa) :
    NewC w0 S ca mv ex al st sc sm se sa T Z D tl (upd L al) (updV us (some sa) (.pointer (some ⟨w.heap.size, 0, none⟩))) (w.alloc (.cells Z T)) := by
  have hb : Below w.heap.size w (w.alloc (.cells Z T)) := (Below.refl _ _).alloc (Nat.le_refl _) _
  have q1 : upd L al ca = L ca := if_neg d1
  have q2 : upd L al mv = L mv := if_neg d2
  have q3 : upd L al ex = L ex := if_neg d3
  have q4 : upd L al st = L st := if_neg d4
  have u1 : updV us (some sa) (.pointer (some ⟨w.heap.size, 0, none⟩)) sc = us sc := if_neg (fun e => d5 (by injection e with e; exact e.symm))
  have u2 : updV us (some sa) (.pointer (some ⟨w.heap.size, 0, none⟩)) sm = us sm := if_neg (fun e => d6 (by injection e with e; exact e.symm))
  have u3 : updV us (some sa) (.pointer (some ⟨w.heap.size, 0, none⟩)) se = us se := if_neg (fun e => d7 (by injection e with e; exact e.symm))
  have u4 : updV us (some sa) (.pointer (some ⟨w.heap.size, 0, none⟩)) sa = .pointer (some ⟨w.heap.size, 0, none⟩) := if_pos rfl
  refine ⟨(h.under hb).below, fun hl => ?_, fun hl => ?_, fun hl => ?_, fun _ => ⟨w.heap.size, Z, u4, h.below.size, heap_alloc_new w _, rfl, fun _ => rfl, fun hl => ?_⟩⟩
  · rw [q1] at hl
    obtain ⟨C, e, hr⟩ := h.call hl
    refine ⟨C, by rw [u1]; exact e, ((rvs_tight' hr).kept hb fun _ h => h.2).wide fun b hb2 => ⟨hb2.1.1, fun _ => ?_⟩⟩
    rw [u4]
    intro e2
    injection e2 with e2
    injection e2 with e2
    injection e2 with e2
    have := hb2.2
    omega
  · rw [q2] at hl
    rw [u1, u2, q1]
    exact h.move hl
  · rw [q3] at hl
    rw [u1, u3, q2]
    exact h.extr hl
  · rw [q4, hst] at hl
    cases hl
/-- the struct is laid into it -/
theorem NewC.laid (h : NewC w0 S ca mv ex al st sc sm se sa T Z D tl L us w) (hn : L st = false) (ha : L al = true) (he : L ex = true) (hZ : D.length = Z.size) {v : Value} (d1 : ca ≠ st) (d2 : mv ≠ st) (d3 : ex ≠ st) (d4 : al ≠ st) :
    ∃ (g : Nat) (C : Array Value), us sa = .pointer (some ⟨g, 0, none⟩) ∧ us se = .agg C ∧ C.size = Z.size ∧ C.all (·.oneCell') = true ∧ w.heap[g]? = some (.cells Z T (0, 0)) ∧ w0.heap.size ≤ g ∧ NewC w0 S ca mv ex al st sc sm se sa T Z D tl (upd L st) (updV us none v) (w.setRow g C) := by
  obtain ⟨hm, C, hC, hE⟩ := h.extr he
  have hc := (h.move hm).1
  obtain ⟨C', e', hr⟩ := h.call hc
  have hCC : C' = C := by
    rw [hC] at e'
    injection e' with e'
    have h2 := congrArg Array.toList e'
    rw [Array.toList_append, Array.toList_append] at h2
    injection h2 with h2 _
    injection h2 with h2
    exact h2.symm
  subst hCC
  obtain ⟨g, C0, e, h1, h2, h3, h4, _⟩ := h.var ha
  obtain rfl := h4 hn
  have hs : C'.size = C0.size := by
    have := hr.1
    rw [Array.length_toList] at this
    omega
  refine ⟨g, C', e, hE, hs, Array.all_eq_true_iff_forall_mem.2 fun u hu => hr.ones u (by simpa using hu), h2, h1, ?_⟩
  have q1 : upd L st ca = L ca := if_neg d1
  have q2 : upd L st mv = L mv := if_neg d2
  have q3 : upd L st ex = L ex := if_neg d3
  have q4 : upd L st al = L al := if_neg d4
  have hg : Rvs w (fun b => S b ∧ b ≠ g) C'.toList D := hr.wide fun b hb => ⟨hb.1, fun e2 => hb.2 ha (by rw [e, e2])⟩
  refine ⟨below_setRow h.below h1 _, fun _ => ⟨C', hC, ?_⟩, fun hl => ?_, fun hl => ?_, fun _ => ⟨g, C', e, h1, setRow_heap _ _ _ _ _ _ h2, hs, fun hl => ?_, fun _ => hg.setRow (fun h => h.2 rfl) C'⟩⟩
  · exact (hg.setRow (fun h => h.2 rfl) C').wide fun b hb => ⟨hb.1, fun _ e2 => hb.2 (by
      have e3 : us sa = .pointer (some ⟨b, 0, none⟩) := e2
      rw [e] at e3
      injection e3 with e3
      injection e3 with e3
      injection e3 with e3
      exact e3.symm)⟩
  · rw [q2] at hl
    rw [q1]
    exact h.move hl
  · rw [q3] at hl
    rw [q2]
    exact h.extr hl
  · rw [show upd L st st = true from if_pos rfl] at hl
    cases hl
theorem NewC.done (h : NewC w0 S ca mv ex al st sc sm se sa T Z D tl (fun _ => true) us w) : Below w0.heap.size w0 w ∧ ∃ (g : Nat) (C : Array Value), us sa = .pointer (some ⟨g, 0, none⟩) ∧ us sc = .tuple (#[.agg C] ++ tl) ∧ us sm = .tuple (#[.agg C] ++ tl) ∧ us se = .agg C ∧ w0.heap.size ≤ g ∧ (∃ E : Array Value, w.heap[g]? = some (.cells E T (0, 0)) ∧ E.size = Z.size ∧ Rvs w (fun b => S b ∧ b ≠ g) E.toList D) := by
  obtain ⟨g, E, e, h1, h2, h3, _, h5⟩ := h.var rfl
  obtain ⟨_, C, hC, hE⟩ := h.extr rfl
  exact ⟨h.below, g, C, e, hC, (h.move rfl).2.trans hC, hE, h1, E, h2, h3, h5 rfl⟩
end
end Go.Proofs.Ytebflcpoecolbaa
