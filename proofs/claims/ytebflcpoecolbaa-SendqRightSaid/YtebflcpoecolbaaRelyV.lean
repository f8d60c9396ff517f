/-
  base/XRelyG's law where the invariant may speak of the values of some slots (ss) as well, which only operations in sp write: so 'x, y := a, b', whose variables' blocks are made in whatever order. Of no one layer; no condition.
-/
import Derived.Test.YtebflcpoecolbaaRelyG
namespace Go.Proofs.Ytebflcpoecolbaa
open Go.RowKit

/-- one slot more -/
def updV (us : Nat → Value) (d : Option Nat) (v : Value) : Nat → Value := fun s => if d = some s then v else us s
/-- only operations in sp write slots in ss -/
def ssB (sp ss : List Nat) : Nat → List Oper → Bool
  | _, [] => true
  | i, o :: r => (sp.contains i || (match o.dst with | none => true | some s => !ss.contains s)) && ssB sp ss (i + 1) r
theorem ssB_at {sp ss : List Nat} : ∀ (r : List Oper) (k : Nat), ssB sp ss k r = true → ∀ i o, r[i]? = some o → sp.contains (k + i) = false → ∀ s, o.dst = some s → ss.contains s = false
  | [], _, _, _, _, hi => by simp at hi
  | o :: r, k, h, 0, o', hi => by
    simp at hi
    subst hi
    intro hc s hs
    simp only [ssB, Bool.and_eq_true] at h
    have h1 := h.1
    rw [Nat.add_zero] at hc
    rw [hc, hs] at h1
    simpa using h1
  | o :: r, k, h, i + 1, o', hi => by
    simp at hi
    simp only [ssB, Bool.and_eq_true] at h
    have := ssB_at r (k + 1) h.2 i o' hi
    rwa [show k + 1 + i = k + (i + 1) from by omega] at this
/-- one operation: run with whatever values its operands may have by then, in whatever world the others may have left -/
def StepV (P : Program) (sp : List Nat) (G : (Nat → Bool) → (Nat → Value) → World → Prop) (l : List Oper) (l0 : List Value) (R : Nat → Pred) (i : Nat) (o : Oper) : Prop :=
  ∀ (L : Nat → Bool) (us : Nat → Value) (ev : Operand → Value) (w : World), (∀ s, ev (.tmp s) = us s) → G L us w → L i = false → Sit l l0 R L ev w o → (∀ k, needsB o k = true → L k = true) →
    ∀ K : Value → World → Prop, (∀ v w', (Below w.heap.size w w' ∧ sp.contains i = false ∨ G (upd L i) (updV us o.dst v) w' ∧ ∀ j, j ≠ i → L j = true → ∀ u, R j u w → R j u w') → (match o.dst with | some _ => R i v w' | none => R i undef w') → K v w') → Run P o ev w K
def AllV (P : Program) (sp : List Nat) (G : (Nat → Bool) → (Nat → Value) → World → Prop) (l : List Oper) (l0 : List Value) (R : Nat → Pred) : Nat → List Oper → Prop
  | _, [] => True
  | i, o :: r => StepV P sp G l l0 R i o ∧ AllV P sp G l l0 R (i + 1) r
section
variable {P : Program} {G : (Nat → Bool) → (Nat → Value) → World → Prop} {sp ss : List Nat} {w0 : World} {l : List Oper} {l0 : List Value} {R : Nat → Pred}
theorem allV_at : ∀ (r : List Oper) (k : Nat), AllV P sp G l l0 R k r → ∀ i o, r[i]? = some o → StepV P sp G l l0 R (k + i) o
  | [], _, _, _, _, hi => by simp at hi
  | o :: r, k, h, 0, o', hi => by simp at hi; subst hi; exact h.1
  | o :: r, k, h, i + 1, o', hi => by
    simp at hi
    have := allV_at r (k + 1) h.2 i o' hi
    rwa [show k + 1 + i = k + (i + 1) from by omega] at this
/-- the state of the walk -/
structure InvV (G : (Nat → Bool) → (Nat → Value) → World → Prop) (l : List Oper) (l0 : List Value) (df : List Deferred) (R : Nat → Pred) (listed : Array Bool) (a : Act) (w : World) : Prop where
  gro : G (fun i => listed.getD i false) (fun s => a.tmps.getD s undef) w
  lsize : listed.size = l.length
  defers : a.defers = df
  size : a.tmps.size = l0.length
  base : ∀ s, (dstsL l).contains s = false → a.tmps.getD s undef = l0.getD s undef
  held : ∀ i o, l[i]? = some o → listed.getD i false = true → R i (valOf o fun s => a.tmps.getD s undef) w
  old : ∀ j oj s, l[j]? = some oj → oj.dst = some s → listed.getD j false = false → a.tmps.getD s undef = l0.getD s undef
  closed : ∀ j oj k, l[j]? = some oj → listed.getD j false = true → needsB oj k = true → listed.getD k false = true

theorem relyV_any {df : List Deferred} {Q : Exit → Act → World → Prop} (hsp : ∀ i ∈ sp, i < l.length) (hgL : ∀ L L' us us' w, (∀ i ∈ sp, L i = L' i) → (∀ s ∈ ss, us s = us' s) → G L us w → G L' us' w) (hgb : ∀ L us w w', Below w.heap.size w w' → G L us w → G L us w') (hss : ssB sp ss 0 l = true) (hmono : ∀ j u w w', Below w.heap.size w w' → R j u w → R j u w') (hchk : relyB l l0.length = true) (hsteps : AllV P sp G l l0 R 0 l)
    (hend : ∀ a w, InvV G l l0 df R (Array.replicate l.length true) a w → Q .normal a w) :
    ∀ (fuel : Nat) (listed : Array Bool) (a : Act) (w : World), listed.toList.count false ≤ fuel → InvV G l l0 df R listed a w → wpAny P .any l.toArray Q fuel listed a w := by
  simp only [relyB, Bool.and_eq_true] at hchk
  obtain ⟨⟨ho, hd⟩, hb⟩ := hchk
  have hord := ordered_at l 0 ho
  have hdis := distinct_at l hd
  have hstep := allV_at l 0 hsteps
  -- nothing is ready: all is behind
  have hall : ∀ listed : Array Bool, listed.size = l.length → Region.ready .any l.toArray listed = [] → ∀ n i, i ≤ n → i < l.length → listed.getD i false = true := by
    intro listed hsz hr n
    induction n with
    | zero =>
      intro i hi hl
      by_cases hx : listed.getD i false = true
      · exact hx
      · have hx' : listed.getD i true = false := by
          simp only [Array.getD_eq_getD_getElem?] at hx ⊢
          rw [Array.getElem?_eq_getElem (by omega)] at hx ⊢
          simpa using hx
        have hm : i ∈ Region.ready .any l.toArray listed := mem_ready.2 ⟨hx', l[i], by simp [hl], fun e he hbn => by have := (hord i l[i] (List.getElem?_eq_getElem hl)).2 e he hbn; omega⟩
        rw [hr] at hm
        cases hm
    | succ n ih =>
      intro i hi hl
      by_cases hx : listed.getD i false = true
      · exact hx
      · have hx' : listed.getD i true = false := by
          simp only [Array.getD_eq_getD_getElem?] at hx ⊢
          rw [Array.getElem?_eq_getElem (by omega)] at hx ⊢
          simpa using hx
        have hm : i ∈ Region.ready .any l.toArray listed := mem_ready.2 ⟨hx', l[i], by simp [hl], fun e he hbn => by have := (hord i l[i] (List.getElem?_eq_getElem hl)).2 e he hbn; exact ih e.on (by omega) (by omega)⟩
        rw [hr] at hm
        cases hm
  have hfin : ∀ (listed : Array Bool) (a : Act) (w : World), InvV G l l0 df R listed a w → Region.ready .any l.toArray listed = [] → Q .normal a w := fun listed a w hI hr => by
    refine hend a w ⟨hgL _ _ _ _ _ (fun i hi => by have h1 := hall listed hI.lsize hr i i (Nat.le_refl _) (hsp i hi); have h2 := hsp i hi; simp only [h1]; simp [Array.getD_eq_getD_getElem?, h2]) (fun _ _ => rfl) hI.gro, by simp, hI.defers, hI.size, hI.base, fun i o hi _ => hI.held i o hi (hall listed hI.lsize hr i i (Nat.le_refl _) (List.getElem?_eq_some_iff.1 hi).1), fun j oj s hj _ hl => by
      have := (List.getElem?_eq_some_iff.1 hj).1
      simp [Array.getD_eq_getD_getElem?, this] at hl, fun j oj k hj _ hn => by
      obtain ⟨e, he, heq⟩ := List.any_eq_true.1 hn
      simp only [Bool.and_eq_true, beq_iff_eq] at heq
      have h1 := (hord j oj hj).2 e (Array.mem_toList_iff.1 he) heq.1
      have h2 := (List.getElem?_eq_some_iff.1 hj).1
      have h3 : k < l.length := by omega
      simp [Array.getD_eq_getD_getElem?, h3]⟩
  have hone : ∀ (listed : Array Bool) (a : Act) (w : World) (fuel : Nat), (∀ (listed : Array Bool) (a : Act) (w : World), listed.toList.count false ≤ fuel → InvV G l l0 df R listed a w → wpAny P .any l.toArray Q fuel listed a w) →
      listed.toList.count false ≤ fuel + 1 → InvV G l l0 df R listed a w → ∀ i ∈ Region.ready .any l.toArray listed, wpOp P l.toArray Q i (wpAny P .any l.toArray Q fuel (listed.setIfInBounds i true)) a w := by
    intro listed a w fuel ih hc hI i hi
    obtain ⟨hun, o, hio, haft⟩ := mem_ready.1 hi
    have hil : l[i]? = some o := by simpa using hio
    have hlt : i < l.length := (List.getElem?_eq_some_iff.1 hil).1
    have hgd := (hord i o hil).1
    have hst := hstep i o hil
    rw [Nat.zero_add] at hst
    have hlist : listed.toList[i]? = some false := by
      simp only [Array.getD_eq_getD_getElem?] at hun
      rw [Array.getElem?_eq_getElem (by have := hI.lsize; omega)] at hun
      rw [Array.getElem?_toList, Array.getElem?_eq_getElem (by have := hI.lsize; omega)]
      simpa using hun
    have hcnt : (listed.setIfInBounds i true).toList.count false ≤ fuel := by
      rw [Array.toList_setIfInBounds]
      have := count_set _ _ hlist
      omega
    unfold wpOp
    rw [hio]
    simp only
    rw [if_pos (by simp [Region.wanted, hgd])]
    refine .inl (wp_of_run ?_)
    have hunf : listed.getD i false = false := by
      simp only [Array.getD_eq_getD_getElem?]
      rw [← Array.getElem?_toList, hlist]
      rfl
    have hneed : ∀ k, needsB o k = true → listed.getD k false = true := fun k hn => by
      obtain ⟨e, he, heq⟩ := List.any_eq_true.1 hn
      simp only [Bool.and_eq_true, beq_iff_eq] at heq
      have := haft e (Array.mem_toList_iff.1 he) heq.1
      rw [heq.2] at this
      exact this
    refine hst (fun i => listed.getD i false) (fun s => a.tmps.getD s undef) a.eval w (fun _ => rfl) hI.gro hunf ⟨fun _ => rfl, fun _ => rfl, fun s hs => hI.base s hs, fun j oj hj hn => ?_, hI.old, hI.closed⟩ hneed _ fun v w' hgp hR => ih _ _ _ hcnt ?_
    · have hh := hI.held j oj hj (hneed j hn)
      cases hdj : oj.dst with
      | none => simp only [valOf, hdj] at hh; exact hh
      | some s => simp only [valOf, hdj] at hh; exact hh
    · have hu : (fun j => (listed.setIfInBounds i true).getD j false) = upd (fun j => listed.getD j false) i := by
        funext j
        unfold upd
        by_cases hj : j = i
        · subst hj
          simp only [Array.getD_eq_getD_getElem?, if_pos]
          rw [Array.getElem?_setIfInBounds_self_of_lt (by have := hI.lsize; omega)]
          rfl
        · rw [if_neg hj]
          exact getD_set_ne false (Ne.symm hj)
      have hput : ∀ s ∈ ss, (a.put o.dst v).tmps.getD s undef = updV (fun s => a.tmps.getD s undef) o.dst v s := fun s _ => by
        unfold updV
        by_cases hd : o.dst = some s
        · rw [if_pos hd, hd]
          have hs : s < a.tmps.size := by
            have : s ∈ dstsL l := List.mem_filterMap.2 ⟨o, List.mem_of_getElem? hil, hd⟩
            have := List.all_eq_true.1 hb s this
            rw [hI.size]
            simpa using this
          exact put_getD_eq _ _ _ hs
        · rw [if_neg hd, put_getD_ne _ _ _ _ hd]
      have hg : G (fun j => (listed.setIfInBounds i true).getD j false) (fun s => (a.put o.dst v).tmps.getD s undef) w' := by
        rw [hu]
        refine hgp.elim (fun h => hgL _ _ _ _ _ (fun j hj => ?_) (fun s hs => ?_) (hgb _ _ _ _ h.1 hI.gro)) (fun h => hgL _ _ _ _ _ (fun _ _ => rfl) (fun s hs => (hput s hs).symm) h.1)
        · have : j ≠ i := by
            rintro rfl
            rw [List.contains_iff_mem.2 hj] at h
            exact absurd h.2 (by simp)
          simp only [upd, if_neg this]
        · rw [put_getD_ne]
          intro hd
          have h3 := ssB_at l 0 hss i o hil (by rw [Nat.zero_add]; exact h.2) s hd
          rw [List.contains_iff_mem.2 hs] at h3
          cases h3
      have hpres : ∀ j, j ≠ i → listed.getD j false = true → ∀ u, R j u w → R j u w' := hgp.elim (fun h j _ _ u hr => hmono j u w w' h.1 hr) (fun h => h.2)
      refine ⟨hg, by simp [hI.lsize], by rw [put_defers]; exact hI.defers, by rw [put_size]; exact hI.size, fun s hs => ?_, fun j oj hj hlj => ?_, fun j oj s hj hd hl => ?_, fun j oj k hj hl hn => ?_⟩
      · rw [put_getD_ne]
        · exact hI.base s hs
        · intro hd
          have : s ∈ dstsL l := List.mem_filterMap.2 ⟨o, List.mem_of_getElem? hil, hd⟩
          have h2 := List.contains_iff_mem.2 this
          rw [hs] at h2
          cases h2
      · by_cases hji : j = i
        · subst hji
          rw [hil] at hj
          cases hj
          cases hdo : o.dst with
          | none =>
            simp only [hdo] at hR
            simp only [valOf, hdo]
            exact hR
          | some s =>
            have hs : s < a.tmps.size := by
              have : s ∈ dstsL l := List.mem_filterMap.2 ⟨o, List.mem_of_getElem? hil, hdo⟩
              have := List.all_eq_true.1 hb s this
              rw [hI.size]
              simpa using this
            simp only [hdo] at hR
            simp only [valOf, hdo]
            rw [put_getD_eq _ _ _ hs]
            exact hR
        · have h1 : listed.getD j false = true := by
            rwa [getD_set_ne false (Ne.symm hji)] at hlj
          have h2 := hpres j hji h1 _ (hI.held j oj hj h1)
          have h3 : (valOf oj fun s => (a.put o.dst v).tmps.getD s undef) = valOf oj fun s => a.tmps.getD s undef := by
            cases hdj : oj.dst with
            | none => simp only [valOf, hdj]
            | some s =>
              simp only [valOf, hdj]
              refine put_getD_ne _ _ _ _ fun hd => hji ?_
              exact (hdis i j o oj s hil hj hd hdj).symm
          rw [h3]
          exact h2
      · have hji : j ≠ i := by
          rintro rfl
          have h2 := congrFun hu j
          simp only [upd, if_pos] at h2
          rw [hl] at h2
          cases h2
        rw [put_getD_ne _ _ _ _ fun hd2 => hji (hdis i j o oj s hil hj hd2 hd).symm]
        exact hI.old j oj s hj hd (by rwa [getD_set_ne false (Ne.symm hji)] at hl)
      · have h2 : (listed.setIfInBounds i true).getD k false = upd (fun j => listed.getD j false) i k := congrFun hu k
        rw [h2]
        unfold upd
        split
        · rfl
        · by_cases hji : j = i
          · subst hji
            rw [hil] at hj
            cases hj
            exact hneed k hn
          · exact hI.closed j oj k hj (by rwa [getD_set_ne false (Ne.symm hji)] at hl) hn
  intro fuel
  induction fuel with
  | zero =>
    intro listed a w hc hI
    have hr : Region.ready .any l.toArray listed = [] := by
      rw [List.eq_nil_iff_forall_not_mem]
      intro i hi
      obtain ⟨hun, o, hio, _⟩ := mem_ready.1 hi
      have hlt : i < l.length := (List.getElem?_eq_some_iff.1 (show l[i]? = some o by simpa using hio)).1
      have hmem : false ∈ listed.toList := by
        simp only [Array.getD_eq_getD_getElem?] at hun
        rw [Array.getElem?_eq_getElem (by have := hI.lsize; omega)] at hun
        have hf : listed[i]'(by have := hI.lsize; omega) = false := by simpa using hun
        rw [← hf]
        simp
      have := List.count_pos_iff.2 hmem
      omega
    exact ⟨hr, hfin listed a w hI hr⟩
  | succ fuel ih =>
    intro listed a w hc hI
    exact ⟨fun hr => hfin listed a w hI hr, fun i hi => hone listed a w fuel ih hc hI i hi⟩

/-- the law -/
theorem wp_region_relyV0 {id : Nat} {df : List Deferred} {Q : Exit → Act → World → Prop} (sp ss : List Nat) (G : (Nat → Bool) → (Nat → Value) → World → Prop) (R : Nat → Pred) (hm : P.follows .mixedOrders = true) (hmono : ∀ j u w w', Below w.heap.size w w' → R j u w → R j u w') (hchk : relyB l l0.length = true)
    (hsteps : AllV P sp G l l0 R 0 l) (hgL : ∀ L L' us us' w, (∀ i ∈ sp, L i = L' i) → (∀ s ∈ ss, us s = us' s) → G L us w → G L' us' w) (hgb : ∀ L us w w', Below w.heap.size w w' → G L us w → G L us w') (hss : ssB sp ss 0 l = true) (hg0 : G (fun _ => false) (fun s => l0.getD s undef) w0)
    (hsp : ∀ i ∈ sp, i < l.length) (hend : ∀ us w, G (fun _ => true) us w → AllHeld R us w 0 l → Q .normal ⟨(fill (dstsL l) us 0 l0).toArray, df⟩ w) : (Code.region id l.toArray true).wp P Q ⟨l0.toArray, df⟩ w0 := by
  have hfl : ∀ i, (Array.replicate l.toArray.size false).getD i false = false := fun i => by
    simp only [Array.getD_eq_getD_getElem?, Array.getElem?_replicate]
    split <;> rfl
  refine wp_region_any hm (relyV_any (R := R) (G := G) (df := df) hsp hgL hgb hss hmono hchk hsteps ?_ _ _ _ _ ?_ ?_)
  · intro a w hI
    have hact : a = ⟨(fill (dstsL l) (fun s => a.tmps.getD s undef) 0 l0).toArray, df⟩ := by
      obtain ⟨tmps, defers⟩ := a
      have h1 := hI.defers
      have h2 := hI.size
      simp only at h1 h2
      subst h1
      congr 1
      apply Array.ext_getElem?
      intro i
      refine Eq.trans ?_ (show (fill (dstsL l) (fun s => tmps.getD s undef) 0 l0)[i]? = _ from (List.getElem?_toArray ..).symm)
      rw [fill_get, Nat.zero_add]
      by_cases hi : i < l0.length
      · rw [List.getElem?_eq_getElem hi, Option.map_some, Array.getElem?_eq_getElem (by omega)]
        congr 1
        by_cases hc : (dstsL l).contains i = true
        · rw [if_pos hc]
          simp only [Array.getD_eq_getD_getElem?]
          rw [Array.getElem?_eq_getElem (by omega)]
          rfl
        · rw [if_neg hc]
          have := hI.base i (by simpa using hc)
          simp only [Array.getD_eq_getD_getElem?, List.getD_eq_getElem?_getD] at this
          rw [Array.getElem?_eq_getElem (by omega), List.getElem?_eq_getElem hi] at this
          exact this
      · rw [List.getElem?_eq_none (by omega), Array.getElem?_eq_none (by omega)]
        rfl
    rw [hact]
    refine hend _ w (hgL _ _ _ _ _ (fun i hi => by have := hsp i hi; simp [Array.getD_eq_getD_getElem?, this]) (fun _ _ => rfl) hI.gro) (allHeld_of l 0 fun i o hi => ?_)
    rw [Nat.zero_add]
    refine hI.held i o hi ?_
    have hlt := (List.getElem?_eq_some_iff.1 hi).1
    simp [hlt]
  · have : (Array.replicate l.toArray.size false).toList.count false = l.length := by simp
    rw [this]
    simp
  · exact ⟨hgL _ _ _ _ _ (fun i _ => by simp only [Array.getD_eq_getD_getElem?, Array.getElem?_replicate]; split <;> rfl) (fun s _ => by simp [List.getD_eq_getElem?_getD]) (hgb _ _ w0 _ ⟨rfl, rfl, rfl, Nat.le_refl _, fun _ _ => rfl⟩ hg0), by simp, rfl, by simp, fun s _ => by simp [List.getD_eq_getElem?_getD], fun i o _ h => (by
      rw [hfl] at h
      cases h), fun j oj s _ _ _ => (by simp [List.getD_eq_getElem?_getD]), fun j oj k _ h => (by
      rw [hfl] at h
      cases h)⟩
/-- the law, the frame behind the region by a mask -/
theorem wp_region_relyV {id : Nat} {df : List Deferred} {Q : Exit → Act → World → Prop} (sp ss : List Nat) (G : (Nat → Bool) → (Nat → Value) → World → Prop) (R : Nat → Pred) (m : List Bool) (hm : P.follows .mixedOrders = true) (hchk : relyB l l0.length = true) (hmask : maskB (dstsL l) 0 l0.length = m)
    (hsteps : AllV P sp G l l0 R 0 l)
    (hmono : ∀ j u w w', Below w.heap.size w w' → R j u w → R j u w')
    (hgL : ∀ L L' us us' w, (∀ i ∈ sp, L i = L' i) → (∀ s ∈ ss, us s = us' s) → G L us w → G L' us' w) (hgb : ∀ L us w w', Below w.heap.size w w' → G L us w → G L us w') (hss : ssB sp ss 0 l = true) (hg0 : G (fun _ => false) (fun s => l0.getD s undef) w0)
    (hsp : ∀ i ∈ sp, i < l.length) (hend : ∀ us w, G (fun _ => true) us w → AllHeld R us w 0 l → Q .normal ⟨(fillM m us 0 l0).toArray, df⟩ w) : (Code.region id l.toArray true).wp P Q ⟨l0.toArray, df⟩ w0 :=
  wp_region_relyV0 sp ss G R hm hmono hchk hsteps hgL hgb hss hg0 hsp fun us w hg hh => by
    rw [fill_mask, hmask]
    exact hend us w hg hh
end

end Go.Proofs.Ytebflcpoecolbaa
