/-
  What a function holds while it is walked, and where its values come from: as Frm (base/XFrm), every value's rows lying in blocks of S or newer than the function's beginning. No condition.
-/
import Derived.Test.YtebflcpoecolbaaFrm
namespace Go.Proofs.Ytebflcpoecolbaa
open Go.RowKit

/-- blocks that are none of these, of S or newer -/
def Ns (S : Nat → Prop) (w0 : World) (gs : List Nat) : Nat → Prop := fun b => b ∉ gs ∧ (S b ∨ w0.heap.size ≤ b)
structure Frs (S : Nat → Prop) (w0 w : World) (vs : List Vr) (ps : List (List Value × List Dat)) : Prop where
  below : Below w0.heap.size w0 w
  vars : ∀ v ∈ vs, w0.heap.size ≤ v.1 ∧ w.heap[v.1]? = some (.cells v.2.1 v.2.2 (0, 0))
  nodup : (vs.map (·.1)).Nodup
  vals : ∀ p ∈ ps, Rvs w (Ns S w0 (vs.map (·.1))) p.1 p.2
section
variable {S : Nat → Prop} {w0 w w' : World} {vs : List Vr} {ps : List (List Value × List Dat)}
theorem Frs.start (h : Below w0.heap.size w0 w) : Frs S w0 w [] [] := ⟨h, by simp, by simp, by simp⟩
theorem Frs.at (h : Frs S w0 w vs ps) {i g : Nat} {C : Array Value} {T : TypeId} (hi : vs[i]? = some (g, C, T)) : w.heap[g]? = some (.cells C T (0, 0)) := (h.vars _ (List.mem_of_getElem? hi)).2
theorem Frs.ge (h : Frs S w0 w vs ps) {i g : Nat} {C : Array Value} {T : TypeId} (hi : vs[i]? = some (g, C, T)) : w0.heap.size ≤ g := (h.vars _ (List.mem_of_getElem? hi)).1
theorem Frs.lt (h : Frs S w0 w vs ps) : ∀ g ∈ vs.map (·.1), g < w.heap.size := fun g hg => by
  obtain ⟨v, hv, rfl⟩ := List.mem_map.1 hg
  exact row_lt (h.vars v hv).2
theorem Frs.ne (h : Frs S w0 w vs ps) {i j g g' : Nat} {C C' : Array Value} {T T' : TypeId} (hi : vs[i]? = some (g, C, T)) (hj : vs[j]? = some (g', C', T')) (hij : i ≠ j) : g ≠ g' := fun e => by
  subst e
  have h1 := List.getElem?_eq_some_iff.1 hi
  have h2 := List.getElem?_eq_some_iff.1 hj
  obtain ⟨a1, a2⟩ := h1
  obtain ⟨b1, b2⟩ := h2
  have hp := List.pairwise_iff_getElem.1 h.nodup
  have e1 : (vs.map (·.1))[i]'(by simpa using a1) = g := by rw [List.getElem_map, a2]
  have e2 : (vs.map (·.1))[j]'(by simpa using b1) = g := by rw [List.getElem_map, b2]
  rcases Nat.lt_or_gt_of_ne hij with hlt | hlt
  · exact hp i j (by simpa using a1) (by simpa using b1) hlt (e1.trans e2.symm)
  · exact hp j i (by simpa using b1) (by simpa using a1) hlt (e2.trans e1.symm)
theorem Frs.val (h : Frs S w0 w vs ps) {i : Nat} {us : List Value} {ds : List Dat} (hi : ps[i]? = some (us, ds)) : Rvs w (Ns S w0 (vs.map (·.1))) us ds := h.vals _ (List.mem_of_getElem? hi)
/-- behind a call -/
theorem Frs.call (h : Frs S w0 w vs ps) (hb : Below w.heap.size w w') : Frs S w0 w' vs ps :=
  ⟨h.below.trans (hb.mono h.below.size), fun v hv => ⟨(h.vars v hv).1, old_below (h.vars v hv).2 hb (row_lt (h.vars v hv).2)⟩, h.nodup, fun p hp => rvs_call (h.vals p hp) hb⟩
/-- behind a call that answers something -/
theorem Frs.res (h : Frs S w0 w vs ps) (hb : Below w.heap.size w w') {us : List Value} {ds : List Dat} (hr : Rvs w' (fun b => Ns S w0 (vs.map (·.1)) b ∨ w.heap.size ≤ b) us ds) : Frs S w0 w' vs ((us, ds) :: ps) :=
  have k := h.call hb
  ⟨k.below, k.vars, k.nodup, fun p hp => by
    rcases List.mem_cons.1 hp with rfl | hp
    · exact hr.wide fun b hb => by
        rcases hb with hb | hb
        · exact hb
        · exact ⟨fun hm => by
            have := h.lt b hm
            omega, .inr (Nat.le_trans h.below.size hb)⟩
    · exact k.vals p hp⟩
theorem Frs.new (h : Frs S w0 w vs ps) (hb : Below w.heap.size w w') {us : List Value} {ds : List Dat} (hr : Rvs w' (fun b => w.heap.size ≤ b) us ds) : Frs S w0 w' vs ((us, ds) :: ps) := h.res hb (hr.wide fun _ h => .inr h)
/-- a second answer of the same call -/
theorem Frs.more {qs : List (List Value × List Dat)} (k : Frs S w0 w' vs qs) (h : Frs S w0 w vs ps) {us : List Value} {ds : List Dat} (hr : Rvs w' (fun b => Ns S w0 (vs.map (·.1)) b ∨ w.heap.size ≤ b) us ds) : Frs S w0 w' vs ((us, ds) :: qs) :=
  ⟨k.below, k.vars, k.nodup, fun p hp => by
    rcases List.mem_cons.1 hp with rfl | hp
    · exact hr.wide fun b hb => by
        rcases hb with hb | hb
        · exact hb
        · exact ⟨fun hm => by
            have := h.lt b hm
            omega, .inr (Nat.le_trans h.below.size hb)⟩
    · exact k.vals p hp⟩
/-- a value that is known -/
theorem Frs.add (h : Frs S w0 w vs ps) {us : List Value} {ds : List Dat} (hr : Rvs w (Ns S w0 (vs.map (·.1))) us ds) : Frs S w0 w vs ((us, ds) :: ps) :=
  ⟨h.below, h.vars, h.nodup, fun p hp => by
    rcases List.mem_cons.1 hp with rfl | hp
    · exact hr
    · exact h.vals p hp⟩
/-- what was there ahead of the function's own -/
theorem Frs.old (h : Frs S w0 w vs ps) {us : List Value} {ds : List Dat} (hr : Rvs w0 S us ds) : Rvs w (Ns S w0 (vs.map (·.1))) us ds :=
  ((rvs_tight' hr).kept h.below fun _ h => h.2).wide fun b hb => ⟨fun hm => by
    obtain ⟨v, hv, rfl⟩ := List.mem_map.1 hm
    have := (h.vars v hv).1
    have := hb.2
    omega, .inl hb.1⟩
/-- a variable more, in a block of its own -/
theorem Frs.have' (h : Frs S w0 w vs ps) (hb : Below w.heap.size w w') {g : Nat} {C : Array Value} {T : TypeId} (hg : w.heap.size ≤ g) (hc : w'.heap[g]? = some (.cells C T (0, 0))) : Frs S w0 w' ((g, C, T) :: vs) ps :=
  have k := h.call hb
  ⟨k.below, fun v hv => by
    rcases List.mem_cons.1 hv with rfl | hv
    · exact ⟨Nat.le_trans h.below.size hg, hc⟩
    · exact k.vars v hv, by
    rw [List.map_cons, List.nodup_cons]
    refine ⟨fun hm => ?_, h.nodup⟩
    have := h.lt g hm
    omega, fun p hp => (rvs_call (rvs_tight' (h.vals p hp)) hb).wide fun b hb => ⟨fun hm => by
      rw [List.map_cons] at hm
      rcases List.mem_cons.1 hm with rfl | hm
      · have := hb.2
        omega
      · exact hb.1.1 hm, hb.1.2⟩⟩
theorem Frs.alloc (h : Frs S w0 w vs ps) (C : Array Value) (T : TypeId) : Frs S w0 (w.alloc (.cells C T)) ((w.heap.size, C, T) :: vs) ps :=
  h.have' ((Below.refl _ _).alloc (Nat.le_refl _) _) (Nat.le_refl _) (heap_alloc_new w _)
/-- two at once -/
theorem Frs.two (h : Frs S w0 w vs ps) (hb : Below w.heap.size w w') {g1 g2 : Nat} {C1 C2 : Array Value} {T1 T2 : TypeId} (hg1 : w.heap.size ≤ g1) (hc1 : w'.heap[g1]? = some (.cells C1 T1 (0, 0))) (hg2 : w.heap.size ≤ g2) (hc2 : w'.heap[g2]? = some (.cells C2 T2 (0, 0))) (hne : g1 ≠ g2) : Frs S w0 w' ((g1, C1, T1) :: (g2, C2, T2) :: vs) ps :=
  have k := h.have' hb hg2 hc2
  ⟨k.below, fun v hv => by
    rcases List.mem_cons.1 hv with rfl | hv
    · exact ⟨Nat.le_trans h.below.size hg1, hc1⟩
    · exact k.vars v hv, by
    rw [List.map_cons, List.nodup_cons]
    refine ⟨fun hm => ?_, k.nodup⟩
    rw [List.map_cons] at hm
    rcases List.mem_cons.1 hm with hm | hm
    · exact hne hm
    · have := h.lt g1 hm
      omega, fun p hp => (rvs_call (rvs_tight' (h.vals p hp)) hb).wide fun b hb => ⟨fun hm => by
      rw [List.map_cons, List.map_cons] at hm
      rcases List.mem_cons.1 hm with rfl | hm
      · have := hb.2
        omega
      · rcases List.mem_cons.1 hm with rfl | hm
        · have := hb.2
          omega
        · exact hb.1.1 hm, hb.1.2⟩⟩
/-- a variable laid anew -/
theorem Frs.put (h : Frs S w0 w vs ps) {i g : Nat} {C : Array Value} {T : TypeId} (hi : vs[i]? = some (g, C, T)) (C2 : Array Value) : Frs S w0 (w.setRow g C2) (vs.set i (g, C2, T)) ps := by
  have hm := map_set_fst (C2 := C2) hi
  have hg : g ∈ vs.map (·.1) := List.mem_map.2 ⟨_, List.mem_of_getElem? hi, rfl⟩
  refine ⟨below_setRow h.below (h.ge hi) C2, fun v hv => ?_, by rw [hm]; exact h.nodup, fun p hp => by rw [hm]; exact (h.vals p hp).setRow (fun hn => hn.1 hg) C2⟩
  obtain ⟨j, hj⟩ := List.getElem?_of_mem hv
  rw [List.getElem?_set] at hj
  split at hj
  · rename_i e
    subst e
    have hl := (List.getElem?_eq_some_iff.1 hi).1
    rw [if_pos hl] at hj
    injection hj with hj
    subst hj
    exact ⟨h.ge hi, setRow_heap _ _ _ _ _ _ (h.at hi)⟩
  · rename_i e
    have := h.ne hj hi (fun k => e k.symm)
    exact ⟨(h.vars v (List.mem_of_getElem? hj)).1, (setRow_other _ _ _ _ this).trans (h.vars v (List.mem_of_getElem? hj)).2⟩
/-- two variables laid anew, in whatever order -/
theorem Frs.put2 (h : Frs S w0 w vs ps) {i j g1 g2 : Nat} {C1 C2 D1 D2 : Array Value} {T1 T2 : TypeId} (hi : vs[i]? = some (g1, C1, T1)) (hj : vs[j]? = some (g2, C2, T2)) (hij : i ≠ j) (hG : Gro (fun k => k = g1 ∨ k = g2) w w') (h1 : w'.heap[g1]? = some (.cells D1 T1 (0, 0))) (h2 : w'.heap[g2]? = some (.cells D2 T2 (0, 0))) : Frs S w0 w' ((vs.set i (g1, D1, T1)).set j (g2, D2, T2)) ps := by
  have hj' : (vs.set i (g1, D1, T1))[j]? = some (g2, C2, T2) := by rw [List.getElem?_set_ne hij]; exact hj
  have hm : ((vs.set i (g1, D1, T1)).set j (g2, D2, T2)).map (·.1) = vs.map (·.1) := by rw [map_set_fst hj', map_set_fst hi]
  have hg1 : g1 ∈ vs.map (·.1) := List.mem_map.2 ⟨_, List.mem_of_getElem? hi, rfl⟩
  have hg2 : g2 ∈ vs.map (·.1) := List.mem_map.2 ⟨_, List.mem_of_getElem? hj, rfl⟩
  refine ⟨h.below.trans (hG.below (fun k hk => by rcases hk with rfl | rfl; exact h.ge hi; exact h.ge hj) h.below.size), fun v hv => ?_, by rw [hm]; exact h.nodup, fun p hp => ?_⟩
  · obtain ⟨k, hk⟩ := List.getElem?_of_mem hv
    by_cases hkj : k = j
    · subst hkj
      rw [List.getElem?_set_self (List.getElem?_eq_some_iff.1 hj').1] at hk
      injection hk with hk
      subst hk
      exact ⟨h.ge hj, h2⟩
    · rw [List.getElem?_set_ne (fun e => hkj e.symm)] at hk
      by_cases hki : k = i
      · subst hki
        rw [List.getElem?_set_self (List.getElem?_eq_some_iff.1 hi).1] at hk
        injection hk with hk
        subst hk
        exact ⟨h.ge hi, h1⟩
      · rw [List.getElem?_set_ne (fun e => hki e.symm)] at hk
        have n1 := h.ne hk hi hki
        have n2 := h.ne hk hj hkj
        have hv' := h.vars v (List.mem_of_getElem? hk)
        exact ⟨hv'.1, (hG.block _ (row_lt hv'.2) (fun e => by rcases e with e | e; exact n1 e; exact n2 e)).trans hv'.2⟩
  · rw [hm]
    refine ((rvs_tight' (h.vals p hp)).keep (keep_blocks (S := fun b => Ns S w0 (vs.map (·.1)) b ∧ b < w.heap.size) fun b hb => hG.block b hb.2 fun e => ?_) fun _ h => h).wide fun _ h => h.1
    rcases e with rfl | rfl
    · exact hb.1.1 hg1
    · exact hb.1.1 hg2
/-- one variable laid anew in a region that draws its order -/
theorem Frs.put1 (h : Frs S w0 w vs ps) {i g : Nat} {C D : Array Value} {T : TypeId} (hi : vs[i]? = some (g, C, T)) (hG : Gro (· = g) w w') (h1 : w'.heap[g]? = some (.cells D T (0, 0))) : Frs S w0 w' (vs.set i (g, D, T)) ps := by
  have hm := map_set_fst (C2 := D) hi
  have hg : g ∈ vs.map (·.1) := List.mem_map.2 ⟨_, List.mem_of_getElem? hi, rfl⟩
  refine ⟨h.below.trans (hG.below (fun k hk => by rw [hk]; exact h.ge hi) h.below.size), fun v hv => ?_, by rw [hm]; exact h.nodup, fun p hp => ?_⟩
  · obtain ⟨k, hk⟩ := List.getElem?_of_mem hv
    by_cases hki : k = i
    · subst hki
      rw [List.getElem?_set_self (List.getElem?_eq_some_iff.1 hi).1] at hk
      injection hk with hk
      subst hk
      exact ⟨h.ge hi, h1⟩
    · rw [List.getElem?_set_ne (fun e => hki e.symm)] at hk
      have n1 := h.ne hk hi hki
      have hv' := h.vars v (List.mem_of_getElem? hk)
      exact ⟨hv'.1, (hG.block _ (row_lt hv'.2) n1).trans hv'.2⟩
  · rw [hm]
    refine ((rvs_tight' (h.vals p hp)).keep (keep_blocks (S := fun b => Ns S w0 (vs.map (·.1)) b ∧ b < w.heap.size) fun b hb => hG.block b hb.2 fun e => ?_) fun _ h => h).wide fun _ h => h.1
    subst e
    exact hb.1.1 hg
/-- the first variables are forgotten, and which values count no more -/
theorem Frs.drop (h : Frs S w0 w vs ps) (n : Nat) {vs' : List Vr} {qs : List (List Value × List Dat)} (hv : vs.drop n = vs') (hq : ∀ p ∈ qs, p ∈ ps) : Frs S w0 w vs' qs := by
  subst hv
  have hs : ∀ g ∈ (vs.drop n).map (·.1), g ∈ vs.map (·.1) := fun g hg => by
    obtain ⟨v, hv, rfl⟩ := List.mem_map.1 hg
    exact List.mem_map.2 ⟨v, List.mem_of_mem_drop hv, rfl⟩
  refine ⟨h.below, fun v hv => h.vars v (List.mem_of_mem_drop hv), ?_, fun p hp => (h.vals p (hq p hp)).wide fun b hb => ⟨fun hm => hb.1 (hs b hm), hb.2⟩⟩
  rw [List.map_drop]
  exact h.nodup.sublist (List.drop_sublist _ _)
/-- a row of one's own, as a variable -/
theorem Frs.own (h : Frs S w0 w vs ps) (hb : Below w.heap.size w w') {e : TypeId} {g n c : Nat} {xs : List Value} (ho : w'.ownsRow w.heap.size e 1 (.slice (some ⟨g, 0, none⟩) n c) n xs) (hn : 0 < n) : ∃ cur : Array Value, Frs S w0 w' ((g, cur, e) :: vs) ps ∧ cur.toList.take n = xs ∧ n ≤ cur.size := by
  obtain ⟨cur, h1, h2, h3, _, h5, h6⟩ := own_at0 ho hn
  exact ⟨cur, h.have' hb h2 h1, by simpa using h6, by omega⟩
end
/-- one variable is forgotten -/
theorem Frs.cut {S : Nat → Prop} {w0 w : World} {vs : List Vr} {ps : List (List Value × List Dat)} (h : Frs S w0 w vs ps) (n : Nat) {vs' : List Vr} (hv : vs.eraseIdx n = vs') : Frs S w0 w vs' ps := by
  subst hv
  have hsub : ∀ v ∈ vs.eraseIdx n, v ∈ vs := fun v hv => List.mem_of_mem_eraseIdx hv
  have hs : ∀ g ∈ (vs.eraseIdx n).map (·.1), g ∈ vs.map (·.1) := fun g hg => by
    obtain ⟨v, hv, rfl⟩ := List.mem_map.1 hg
    exact List.mem_map.2 ⟨v, hsub v hv, rfl⟩
  refine ⟨h.below, fun v hv => h.vars v (hsub v hv), ?_, fun p hp => (h.vals p hp).wide fun b hb => ⟨fun hm => hb.1 (hs b hm), hb.2⟩⟩
  exact h.nodup.sublist ((List.eraseIdx_sublist vs n).map _)
/-- what may be handed on: of S, or newer -/
theorem Frs.hand {S : Nat → Prop} {w0 w : World} {vs : List Vr} {ps : List (List Value × List Dat)} (h : Frs S w0 w vs ps) {i : Nat} {us : List Value} {ds : List Dat} (hi : ps[i]? = some (us, ds)) : Rvs w (fun b => S b ∨ w0.heap.size ≤ b) us ds := (h.val hi).wide fun _ h => h.2
end Go.Proofs.Ytebflcpoecolbaa
