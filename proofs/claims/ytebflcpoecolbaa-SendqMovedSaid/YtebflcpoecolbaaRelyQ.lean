/-
  base/XRely's law where operations are guarded, and each guard's truth is known ahead of the region (M: which operations run). Of no one layer; no condition.
-/
import Derived.Test.YtebflcpoecolbaaRely
namespace Go.Proofs.Ytebflcpoecolbaa
open Go.RowKit

def guardB (o : Oper) : Bool := match o.guard with | none => true | some (g, _) => needsB o g
def orderedQ : Nat → List Oper → Bool
  | _, [] => true
  | i, o :: r => guardB o && (o.after.all fun e => !Region.binds .any e || decide (e.on < i)) && orderedQ (i + 1) r
def relyQB (l : List Oper) (n : Nat) : Bool := orderedQ 0 l && distinctB (dstsL l) && (dstsL l).all (· < n)
/-- what is known of a guard -/
def GuardIs (M : Nat → Bool) (l : List Oper) (R : Nat → Pred) (i : Nat) (o : Oper) : Prop :=
  match o.guard with | none => M i = true | some (g, b) => ∃ og s, l[g]? = some og ∧ og.dst = some s ∧ ∀ v w, R g v w → v = .bool (b == M i)
def AllQ (P : Program) (M : Nat → Bool) (X : Nat → Prop) (w0 : World) (l : List Oper) (l0 : List Value) (R : Nat → Pred) : Nat → List Oper → Prop
  | _, [] => True
  | i, o :: r => (GuardIs M l R i o ∧ (if M i = true then StepOK P X w0 l l0 R i o else ∀ w, R i undef w)) ∧ AllQ P M X w0 l l0 R (i + 1) r
section
variable {P : Program} {M : Nat → Bool} {X : Nat → Prop} {w0 : World} {l : List Oper} {l0 : List Value} {R : Nat → Pred}
theorem allQ_at : ∀ (r : List Oper) (k : Nat), AllQ P M X w0 l l0 R k r → ∀ i o, r[i]? = some o → GuardIs M l R (k + i) o ∧ (if M (k + i) = true then StepOK P X w0 l l0 R (k + i) o else ∀ w, R (k + i) undef w)
  | [], _, _, _, _, hi => by simp at hi
  | o :: r, k, h, 0, o', hi => by simp at hi; subst hi; exact h.1
  | o :: r, k, h, i + 1, o', hi => by
    simp at hi
    have := allQ_at r (k + 1) h.2 i o' hi
    rwa [show k + 1 + i = k + (i + 1) from by omega] at this
theorem orderedQ_at : ∀ (r : List Oper) (k : Nat), orderedQ k r = true → ∀ i o, r[i]? = some o → guardB o = true ∧ ∀ e ∈ o.after, Region.binds .any e = true → e.on < k + i
  | [], _, _, _, _, hi => by simp at hi
  | o :: r, k, h, 0, o', hi => by
    simp at hi
    subst hi
    simp only [orderedQ, Bool.and_eq_true] at h
    refine ⟨h.1.1, fun e he hb => ?_⟩
    have := Array.all_eq_true_iff_forall_mem.1 h.1.2 e he
    simpa [hb] using this
  | o :: r, k, h, i + 1, o', hi => by
    simp only [orderedQ, Bool.and_eq_true] at h
    simp at hi
    have := orderedQ_at r (k + 1) h.2 i o' hi
    rwa [show k + 1 + i = k + (i + 1) from by omega] at this
theorem relyQ_any {df : List Deferred} {Q : Exit → Act → World → Prop} (hmono : ∀ j u w w', Below w.heap.size w w' → R j u w → R j u w') (hchk : relyQB l l0.length = true) (hsteps : AllQ P M X w0 l l0 R 0 l)
    (hend : ∀ a w, Inv X w0 l l0 df R (Array.replicate l.length true) a w → Q .normal a w) :
    ∀ (fuel : Nat) (listed : Array Bool) (a : Act) (w : World), listed.toList.count false ≤ fuel → Inv X w0 l l0 df R listed a w → wpAny P .any l.toArray Q fuel listed a w := by
  simp only [relyQB, Bool.and_eq_true] at hchk
  obtain ⟨⟨ho, hd⟩, hb⟩ := hchk
  have hord := orderedQ_at l 0 ho
  have hdis := distinct_at l hd
  have hstep := allQ_at l 0 hsteps
  -- nothing is ready: all is behind
  have hall : ∀ listed : Array Bool, listed.size = l.length → Region.ready .any l.toArray listed = [] → ∀ n i, i ≤ n → i < l.length → listed.getD i false = true := by
    intro listed hsz hr n
    induction n with
    | zero =>
      intro i hi hl
      by_cases hx : listed.getD i false = true
      · exact hx
      · have hx' : listed.getD i true = false := by
          simp only [Array.getD_eq_getD_getElem?] at hx ⊢
          rw [Array.getElem?_eq_getElem (by omega)] at hx ⊢
          simpa using hx
        have hm : i ∈ Region.ready .any l.toArray listed := mem_ready.2 ⟨hx', l[i], by simp [hl], fun e he hbn => by have := (hord i l[i] (List.getElem?_eq_getElem hl)).2 e he hbn; omega⟩
        rw [hr] at hm
        cases hm
    | succ n ih =>
      intro i hi hl
      by_cases hx : listed.getD i false = true
      · exact hx
      · have hx' : listed.getD i true = false := by
          simp only [Array.getD_eq_getD_getElem?] at hx ⊢
          rw [Array.getElem?_eq_getElem (by omega)] at hx ⊢
          simpa using hx
        have hm : i ∈ Region.ready .any l.toArray listed := mem_ready.2 ⟨hx', l[i], by simp [hl], fun e he hbn => by have := (hord i l[i] (List.getElem?_eq_getElem hl)).2 e he hbn; exact ih e.on (by omega) (by omega)⟩
        rw [hr] at hm
        cases hm
  have hfin : ∀ (listed : Array Bool) (a : Act) (w : World), Inv X w0 l l0 df R listed a w → Region.ready .any l.toArray listed = [] → Q .normal a w := fun listed a w hI hr => by
    refine hend a w ⟨hI.gro, by simp, hI.defers, hI.size, hI.base, fun i o hi _ => hI.held i o hi (hall listed hI.lsize hr i i (Nat.le_refl _) (List.getElem?_eq_some_iff.1 hi).1)⟩
  have hone : ∀ (listed : Array Bool) (a : Act) (w : World) (fuel : Nat), (∀ (listed : Array Bool) (a : Act) (w : World), listed.toList.count false ≤ fuel → Inv X w0 l l0 df R listed a w → wpAny P .any l.toArray Q fuel listed a w) →
      listed.toList.count false ≤ fuel + 1 → Inv X w0 l l0 df R listed a w → ∀ i ∈ Region.ready .any l.toArray listed, wpOp P l.toArray Q i (wpAny P .any l.toArray Q fuel (listed.setIfInBounds i true)) a w := by
    intro listed a w fuel ih hc hI i hi
    obtain ⟨hun, o, hio, haft⟩ := mem_ready.1 hi
    have hil : l[i]? = some o := by simpa using hio
    have hlt : i < l.length := (List.getElem?_eq_some_iff.1 hil).1
    have hgd := (hord i o hil).1
    obtain ⟨hgm, hst⟩ := hstep i o hil
    unfold GuardIs at hgm
    rw [Nat.zero_add] at hst hgm
    have hlist : listed.toList[i]? = some false := by
      simp only [Array.getD_eq_getD_getElem?] at hun
      rw [Array.getElem?_eq_getElem (by have := hI.lsize; omega)] at hun
      rw [Array.getElem?_toList, Array.getElem?_eq_getElem (by have := hI.lsize; omega)]
      simpa using hun
    have hcnt : (listed.setIfInBounds i true).toList.count false ≤ fuel := by
      rw [Array.toList_setIfInBounds]
      have := count_set _ _ hlist
      omega
    unfold wpOp
    rw [hio]
    simp only
    have hnext : ∀ v w', (Below w.heap.size w w' ∨ Gro X w w' ∧ ∀ j, j ≠ i → ∀ u, R j u w → R j u w') → (match o.dst with | some _ => R i v w' | none => R i undef w') → Inv X w0 l l0 df R (listed.setIfInBounds i true) (a.put o.dst v) w' := by
      intro v w' hgp hR
      have hg : Gro X w w' := hgp.elim (fun h => Gro.of h) (fun h => h.1)
      have hpres : ∀ j, j ≠ i → ∀ u, R j u w → R j u w' := hgp.elim (fun h j _ u hr => hmono j u w w' h hr) (fun h => h.2)
      refine ⟨hI.gro.trans hg, by simp [hI.lsize], by rw [put_defers]; exact hI.defers, by rw [put_size]; exact hI.size, fun s hs => ?_, fun j oj hj hlj => ?_⟩
      · rw [put_getD_ne]
        · exact hI.base s hs
        · intro hd
          have : s ∈ dstsL l := List.mem_filterMap.2 ⟨o, List.mem_of_getElem? hil, hd⟩
          have h2 := List.contains_iff_mem.2 this
          rw [hs] at h2
          cases h2
      · by_cases hji : j = i
        · subst hji
          rw [hil] at hj
          cases hj
          cases hdo : o.dst with
          | none =>
            simp only [hdo] at hR
            simp only [valOf, hdo]
            exact hR
          | some s =>
            have hs : s < a.tmps.size := by
              have : s ∈ dstsL l := List.mem_filterMap.2 ⟨o, List.mem_of_getElem? hil, hdo⟩
              have := List.all_eq_true.1 hb s this
              rw [hI.size]
              simpa using this
            simp only [hdo] at hR
            simp only [valOf, hdo]
            rw [put_getD_eq _ _ _ hs]
            exact hR
        · have h1 : listed.getD j false = true := by
            rwa [getD_set_ne false (Ne.symm hji)] at hlj
          have h2 := hpres j hji _ (hI.held j oj hj h1)
          have h3 : (valOf oj fun s => (a.put o.dst v).tmps.getD s undef) = valOf oj fun s => a.tmps.getD s undef := by
            cases hdj : oj.dst with
            | none => simp only [valOf, hdj]
            | some s =>
              simp only [valOf, hdj]
              refine put_getD_ne _ _ _ _ fun hd => hji ?_
              exact (hdis i j o oj s hil hj hd hdj).symm
          rw [h3]
          exact h2
    have hheld : ∀ j oj, l[j]? = some oj → needsB o j = true → R j (valOf oj fun s => a.tmps.getD s undef) w := fun j oj hj hn => by
      obtain ⟨e, he, heq⟩ := List.any_eq_true.1 hn
      simp only [Bool.and_eq_true, beq_iff_eq] at heq
      have := haft e (Array.mem_toList_iff.1 he) heq.1
      rw [heq.2] at this
      exact hI.held j oj hj this
    have hw : Region.wanted o (yielded l.toArray a.tmps) = M i := by
      unfold Region.wanted
      cases hgo : o.guard with
      | none =>
        rw [hgo] at hgm
        exact hgm.symm
      | some gb =>
        obtain ⟨g, b⟩ := gb
        unfold guardB at hgd
        rw [hgo] at hgm hgd
        obtain ⟨og, s, h1, h2, h3⟩ := hgm
        have h4 := h3 _ _ (hheld g og h1 hgd)
        simp only [valOf, h2] at h4
        have h5 : a.tmps[s]? = some (.bool (b == M i)) := by
          rw [Array.getD_eq_getD_getElem?] at h4
          cases h6 : a.tmps[s]? with
          | none => rw [h6] at h4; cases h4
          | some x => rw [h6] at h4; simpa using h4
        have h7 : yielded l.toArray a.tmps g = some (b == M i) := by
          unfold yielded
          simp [h1, h2, h5]
        simp only [h7]
        cases b <;> cases M i <;> rfl
    rw [hw]
    cases hMi : M i with
    | false =>
      rw [hMi] at hst
      simp only [Bool.false_eq_true, if_false] at hst ⊢
      refine ih _ _ _ hcnt (hnext undef w (.inl (Below.refl _ _)) ?_)
      cases o.dst <;> exact hst w
    | true =>
      rw [hMi] at hst
      simp only [if_true] at hst ⊢
      refine .inl (wp_of_run ?_)
      refine hst a.eval w hI.gro (fun _ => rfl) (fun _ => rfl) (fun s hs => hI.base s hs) (fun j oj hj hn => ?_) _ fun v w' hgp hR => ih _ _ _ hcnt (hnext v w' hgp hR)
      have hh := hheld j oj hj hn
      cases hdj : oj.dst with
      | none => simp only [valOf, hdj] at hh; exact hh
      | some s => simp only [valOf, hdj] at hh; exact hh
  intro fuel
  induction fuel with
  | zero =>
    intro listed a w hc hI
    have hr : Region.ready .any l.toArray listed = [] := by
      rw [List.eq_nil_iff_forall_not_mem]
      intro i hi
      obtain ⟨hun, o, hio, _⟩ := mem_ready.1 hi
      have hlt : i < l.length := (List.getElem?_eq_some_iff.1 (show l[i]? = some o by simpa using hio)).1
      have hmem : false ∈ listed.toList := by
        simp only [Array.getD_eq_getD_getElem?] at hun
        rw [Array.getElem?_eq_getElem (by have := hI.lsize; omega)] at hun
        have hf : listed[i]'(by have := hI.lsize; omega) = false := by simpa using hun
        rw [← hf]
        simp
      have := List.count_pos_iff.2 hmem
      omega
    exact ⟨hr, hfin listed a w hI hr⟩
  | succ fuel ih =>
    intro listed a w hc hI
    exact ⟨fun hr => hfin listed a w hI hr, fun i hi => hone listed a w fuel ih hc hI i hi⟩

/-- the law -/
theorem wp_region_relyQ0 {id : Nat} {df : List Deferred} {Q : Exit → Act → World → Prop} (M : Nat → Bool) (X : Nat → Prop) (R : Nat → Pred) (hm : P.follows .mixedOrders = true) (hmono : ∀ j u w w', Below w.heap.size w w' → R j u w → R j u w') (hchk : relyQB l l0.length = true)
    (hsteps : AllQ P M X w0 l l0 R 0 l)
    (hend : ∀ us w, Gro X w0 w → AllHeld R us w 0 l → Q .normal ⟨(fill (dstsL l) us 0 l0).toArray, df⟩ w) : (Code.region id l.toArray true).wp P Q ⟨l0.toArray, df⟩ w0 := by
  refine wp_region_any hm (relyQ_any (R := R) (X := X) (w0 := w0) (df := df) hmono hchk hsteps ?_ _ _ _ _ ?_ ?_)
  · intro a w hI
    have hact : a = ⟨(fill (dstsL l) (fun s => a.tmps.getD s undef) 0 l0).toArray, df⟩ := by
      obtain ⟨tmps, defers⟩ := a
      have h1 := hI.defers
      have h2 := hI.size
      simp only at h1 h2
      subst h1
      congr 1
      apply Array.ext_getElem?
      intro i
      refine Eq.trans ?_ (show (fill (dstsL l) (fun s => tmps.getD s undef) 0 l0)[i]? = _ from (List.getElem?_toArray ..).symm)
      rw [fill_get, Nat.zero_add]
      by_cases hi : i < l0.length
      · rw [List.getElem?_eq_getElem hi, Option.map_some, Array.getElem?_eq_getElem (by omega)]
        congr 1
        by_cases hc : (dstsL l).contains i = true
        · rw [if_pos hc]
          simp only [Array.getD_eq_getD_getElem?]
          rw [Array.getElem?_eq_getElem (by omega)]
          rfl
        · rw [if_neg hc]
          have := hI.base i (by simpa using hc)
          simp only [Array.getD_eq_getD_getElem?, List.getD_eq_getElem?_getD] at this
          rw [Array.getElem?_eq_getElem (by omega), List.getElem?_eq_getElem hi] at this
          exact this
      · rw [List.getElem?_eq_none (by omega), Array.getElem?_eq_none (by omega)]
        rfl
    rw [hact]
    refine hend _ w hI.gro (allHeld_of l 0 fun i o hi => ?_)
    rw [Nat.zero_add]
    refine hI.held i o hi ?_
    have hlt := (List.getElem?_eq_some_iff.1 hi).1
    simp [hlt]
  · have : (Array.replicate l.toArray.size false).toList.count false = l.length := by simp
    rw [this]
    simp
  · exact ⟨⟨rfl, rfl, rfl, Nat.le_refl _, fun _ _ _ => rfl, fun _ cs _ _ h => ⟨cs, h, rfl⟩⟩, by simp, rfl, by simp, fun s _ => by simp [List.getD_eq_getElem?_getD], fun i o _ h => by
      have : (Array.replicate l.toArray.size false).getD i false = false := by
        simp only [Array.getD_eq_getD_getElem?, Array.getElem?_replicate]
        split <;> rfl
      rw [this] at h
      cases h⟩
/-- the law, the frame behind the region by a mask -/
theorem wp_region_relyQ {id : Nat} {df : List Deferred} {Q : Exit → Act → World → Prop} (M : Nat → Bool) (X : Nat → Prop) (R : Nat → Pred) (m : List Bool) (hm : P.follows .mixedOrders = true) (hchk : relyQB l l0.length = true) (hmask : maskB (dstsL l) 0 l0.length = m)
    (hsteps : AllQ P M X w0 l l0 R 0 l)
    (hmono : ∀ j u w w', Below w.heap.size w w' → R j u w → R j u w')
    (hend : ∀ us w, Gro X w0 w → AllHeld R us w 0 l → Q .normal ⟨(fillM m us 0 l0).toArray, df⟩ w) : (Code.region id l.toArray true).wp P Q ⟨l0.toArray, df⟩ w0 :=
  wp_region_relyQ0 M X R hm hmono hchk hsteps fun us w hg hh => by
    rw [fill_mask, hmask]
    exact hend us w hg hh
end
end Go.Proofs.Ytebflcpoecolbaa
