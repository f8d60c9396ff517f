/-
  base/XRelyG's law for a region whose last operation waits for all others: that one is walked by itself, over the frame that the others leave. Of no one layer; no condition.
-/
import Derived.Test.YtebflcpoecolbaaRelyG
namespace Go.Proofs.Ytebflcpoecolbaa
open Go.RowKit

/-- what is asked behind all but the last: the last one's walk; of every other way out what Q asks -/
def LastQ (P : Program) (ops : Array Oper) (n : Nat) (Q : Exit → Act → World → Prop) : Exit → Act → World → Prop := fun e a w =>
  match e with
  | .normal => wpOp P ops Q n (fun a w => Q .normal a w) a w
  | e => Q e a w
theorem upon_last {P : Program} {ops : Array Oper} {n : Nat} {Q : Exit → Act → World → Prop} {o : Oper} {a : Act} {w : World} {K K' : Act → World → Prop} (h : ∀ a w, K a w → K' a w) (hh : o.wp P a w K (LastQ P ops n Q)) : o.wp P a w K' Q := by
  unfold Oper.wp at *
  generalize (execOp a.eval o).run P w = r at *
  cases r with
  | ok m w' =>
    cases m <;> simp only [Oper.upon] at hh ⊢ <;>
      first
        | exact h _ _ hh
        | exact Calls.mono hh (fun e w'' he => by cases e <;> first | exact h _ _ he | exact he)
        | exact Rows.mono hh (fun _ _ he => h _ _ he)
  | halt x w' => cases x <;> simp only [Oper.upon] at hh ⊢ <;> exact hh
theorem wpOp_last {P : Program} {ops ops' : Array Oper} {n : Nat} {Q : Exit → Act → World → Prop} {i : Nat} {a : Act} {w : World} {K K' : Act → World → Prop} (hi : ops'[i]? = ops[i]?) (hy : ∀ o, ops[i]? = some o → o.guard = none) (hs : ∃ o, ops[i]? = some o) (h : ∀ a w, K a w → K' a w) (hh : wpOp P ops (LastQ P ops' n Q) i K a w) : wpOp P ops' Q i K' a w := by
  obtain ⟨o, ho⟩ := hs
  unfold wpOp at *
  rw [hi]
  simp only [ho] at hh ⊢
  have hw : ∀ ys, Region.wanted o ys = true := fun ys => by unfold Region.wanted; rw [hy o ho]
  simp only [hw, if_true] at hh ⊢
  exact hh.imp (upon_last h) (fun h => h)

section
variable {P : Program} {G : (Nat → Bool) → World → Prop} {sp : List Nat} {w0 : World} {l : List Oper} {l0 : List Value} {R : Nat → Pred}
theorem relyG_wpAny {df : List Deferred} {Q : Exit → Act → World → Prop} (sp : List Nat) (G : (Nat → Bool) → World → Prop) (R : Nat → Pred) (hmono : ∀ j u w w', Below w.heap.size w w' → R j u w → R j u w') (hchk : relyB l l0.length = true)
    (hsteps : AllG P sp G l l0 R 0 l) (hgL : ∀ L L' w, (∀ i ∈ sp, L i = L' i) → G L w → G L' w) (hgb : ∀ L w w', Below w.heap.size w w' → G L w → G L w') (hg0 : G (fun _ => false) w0)
    (hsp : ∀ i ∈ sp, i < l.length) (hend : ∀ us w, G (fun _ => true) w → AllHeld R us w 0 l → Q .normal ⟨(fill (dstsL l) us 0 l0).toArray, df⟩ w) : wpAny P .any l.toArray Q l.toArray.size (Array.replicate l.toArray.size false) ⟨l0.toArray, df⟩ { w0 with drawn := w0.drawn + 1 } := by
  have hfl : ∀ i, (Array.replicate l.toArray.size false).getD i false = false := fun i => by
    simp only [Array.getD_eq_getD_getElem?, Array.getElem?_replicate]
    split <;> rfl
  refine relyG_any (R := R) (G := G) (df := df) hsp hgL hgb hmono hchk hsteps ?_ _ _ _ _ ?_ ?_
  · intro a w hI
    have hact : a = ⟨(fill (dstsL l) (fun s => a.tmps.getD s undef) 0 l0).toArray, df⟩ := by
      obtain ⟨tmps, defers⟩ := a
      have h1 := hI.defers
      have h2 := hI.size
      simp only at h1 h2
      subst h1
      congr 1
      apply Array.ext_getElem?
      intro i
      refine Eq.trans ?_ (show (fill (dstsL l) (fun s => tmps.getD s undef) 0 l0)[i]? = _ from (List.getElem?_toArray ..).symm)
      rw [fill_get, Nat.zero_add]
      by_cases hi : i < l0.length
      · rw [List.getElem?_eq_getElem hi, Option.map_some, Array.getElem?_eq_getElem (by omega)]
        congr 1
        by_cases hc : (dstsL l).contains i = true
        · rw [if_pos hc]
          simp only [Array.getD_eq_getD_getElem?]
          rw [Array.getElem?_eq_getElem (by omega)]
          rfl
        · rw [if_neg hc]
          have := hI.base i (by simpa using hc)
          simp only [Array.getD_eq_getD_getElem?, List.getD_eq_getElem?_getD] at this
          rw [Array.getElem?_eq_getElem (by omega), List.getElem?_eq_getElem hi] at this
          exact this
      · rw [List.getElem?_eq_none (by omega), Array.getElem?_eq_none (by omega)]
        rfl
    rw [hact]
    refine hend _ w (hgL _ _ _ (fun i hi => by have := hsp i hi; simp [Array.getD_eq_getD_getElem?, this]) hI.gro) (allHeld_of l 0 fun i o hi => ?_)
    rw [Nat.zero_add]
    refine hI.held i o hi ?_
    have hlt := (List.getElem?_eq_some_iff.1 hi).1
    simp [hlt]
  · have : (Array.replicate l.toArray.size false).toList.count false = l.length := by simp
    rw [this]
    simp
  · exact ⟨hgL _ _ _ (fun i _ => by simp only [Array.getD_eq_getD_getElem?, Array.getElem?_replicate]; split <;> rfl) (hgb _ w0 _ ⟨rfl, rfl, rfl, Nat.le_refl _, fun _ _ => rfl⟩ hg0), by simp, rfl, by simp, fun s _ => by simp [List.getD_eq_getElem?_getD], fun i o _ h => (by
      rw [hfl] at h
      cases h), fun j oj s _ _ _ => (by simp [List.getD_eq_getElem?_getD]), fun j oj k _ h => (by
      rw [hfl] at h
      cases h)⟩

theorem ready_all (hord : orderedB 0 l = true) (listed : Array Bool) (hsz : listed.size = l.length) (hr : Region.ready .any l.toArray listed = []) : ∀ n i, i ≤ n → i < l.length → listed.getD i false = true := by
  have hord := ordered_at l 0 hord
  intro n
  induction n with
  | zero =>
    intro i hi hl
    by_cases hx : listed.getD i false = true
    · exact hx
    · have hx' : listed.getD i true = false := by
        simp only [Array.getD_eq_getD_getElem?] at hx ⊢
        rw [Array.getElem?_eq_getElem (by omega)] at hx ⊢
        simpa using hx
      have hm : i ∈ Region.ready .any l.toArray listed := mem_ready.2 ⟨hx', l[i], by simp [hl], fun e he hbn => by have := (hord i l[i] (List.getElem?_eq_getElem hl)).2 e he hbn; omega⟩
      rw [hr] at hm
      cases hm
  | succ n ih =>
    intro i hi hl
    by_cases hx : listed.getD i false = true
    · exact hx
    · have hx' : listed.getD i true = false := by
        simp only [Array.getD_eq_getD_getElem?] at hx ⊢
        rw [Array.getElem?_eq_getElem (by omega)] at hx ⊢
        simpa using hx
      have hm : i ∈ Region.ready .any l.toArray listed := mem_ready.2 ⟨hx', l[i], by simp [hl], fun e he hbn => by have := (hord i l[i] (List.getElem?_eq_getElem hl)).2 e he hbn; exact ih e.on (by omega) (by omega)⟩
      rw [hr] at hm
      cases hm
theorem push_getD (listed : Array Bool) (b d : Bool) (j : Nat) (h : j < listed.size) : (listed.push b).getD j d = listed.getD j d := by
  simp only [Array.getD_eq_getD_getElem?]
  rw [Array.getElem?_push_lt h, Array.getElem?_eq_getElem h]
theorem push_last (listed : Array Bool) (b d : Bool) : (listed.push b).getD listed.size d = b := by
  simp [Array.getD_eq_getD_getElem?]
/-- the last operation waits for all others -/
def lastB (o : Oper) (n : Nat) : Bool := o.guard.isNone && (o.after.toList.all fun e => !Region.binds .any e || decide (e.on < n)) && (List.range n).all (needsB o)
theorem wpAny_snoc {o : Oper} {Q : Exit → Act → World → Prop} (hord : orderedB 0 l = true) (hla : lastB o l.length = true) :
    ∀ (fuel : Nat) (listed : Array Bool) (a : Act) (w : World), listed.size = l.length → wpAny P .any l.toArray (LastQ P (l ++ [o]).toArray l.length Q) fuel listed a w → wpAny P .any (l ++ [o]).toArray Q (fuel + 1) (listed.push false) a w := by
  simp only [lastB, Bool.and_eq_true, List.all_eq_true, List.mem_range] at hla
  obtain ⟨⟨_, hbd⟩, hneed⟩ := hla
  have hordA := ordered_at l 0 hord
  have hat : ∀ i, i < l.length → (l ++ [o]).toArray[i]? = l.toArray[i]? := fun i hi => by simp [List.getElem?_append_left hi]
  have hlast : (l ++ [o]).toArray[l.length]? = some o := by simp
  -- the last one comes up just when all others are done
  have hE : ∀ listed : Array Bool, listed.size = l.length → (∀ i, i < l.length → listed.getD i false = true) → l.length ∈ Region.ready .any (l ++ [o]).toArray (listed.push false) := fun listed hsz hall => by
    refine mem_ready.2 ⟨by rw [← hsz]; exact push_last _ _ _, o, hlast, fun e he hbn => ?_⟩
    have h1 := hbd e (Array.mem_toList_iff.2 he)
    rw [hbn] at h1
    have h2 : e.on < l.length := by simpa using h1
    rw [push_getD _ _ _ _ (by omega)]
    exact hall _ h2
  have hF : ∀ (listed : Array Bool) (i : Nat), listed.size = l.length → i ∈ Region.ready .any (l ++ [o]).toArray (listed.push false) → (i = l.length ∧ ∀ j, j < l.length → listed.getD j false = true) ∨ (i < l.length ∧ i ∈ Region.ready .any l.toArray listed) := fun listed i hsz hi => by
    obtain ⟨h1, oi, h2, h3⟩ := mem_ready.1 hi
    have hil : i < l.length + 1 := by
      have := (Array.getElem?_eq_some_iff.1 h2).1
      simpa using this
    by_cases hin : i = l.length
    · subst hin
      refine .inl ⟨rfl, fun j hj => ?_⟩
      rw [hlast] at h2
      injection h2 with h2
      subst h2
      obtain ⟨e, he, heq⟩ := List.any_eq_true.1 (hneed j hj)
      simp only [Bool.and_eq_true, beq_iff_eq] at heq
      have := h3 e (Array.mem_toList_iff.1 he) heq.1
      rw [heq.2, push_getD _ _ _ _ (by omega)] at this
      exact this
    · have hlt : i < l.length := by omega
      rw [hat i hlt] at h2
      rw [push_getD _ _ _ _ (by omega)] at h1
      refine .inr ⟨hlt, mem_ready.2 ⟨h1, oi, h2, fun e he hbn => ?_⟩⟩
      have h4 := (hordA i oi (by simpa using h2)).2 e he hbn
      have h5 := h3 e he hbn
      rw [push_getD _ _ _ _ (by omega)] at h5
      exact h5
  have hH : ∀ listed : Array Bool, listed.size = l.length → (∀ i, i < l.length → listed.getD i false = true) → Region.ready .any (l ++ [o]).toArray (listed.push true) = [] := fun listed hsz hall => by
    rw [List.eq_nil_iff_forall_not_mem]
    intro i hi
    obtain ⟨h1, oi, h2, _⟩ := mem_ready.1 hi
    have hil : i < l.length + 1 := by
      have := (Array.getElem?_eq_some_iff.1 h2).1
      simpa using this
    by_cases hin : i = l.length
    · subst hin
      rw [← hsz, push_last] at h1
      cases h1
    · rw [push_getD _ _ _ _ (by omega)] at h1
      have h3 := hall i (by omega)
      simp only [Array.getD_eq_getD_getElem?] at h1 h3
      rw [Array.getElem?_eq_getElem (by omega)] at h1 h3
      simp only [Option.getD_some] at h1 h3
      rw [h1] at h3
      cases h3
  have hset : ∀ listed : Array Bool, listed.size = l.length → (listed.push false).setIfInBounds l.length true = listed.push true := fun listed hsz => by
    apply Array.ext'
    rw [Array.toList_setIfInBounds, Array.toList_push, Array.toList_push, ← hsz, ← Array.length_toList, List.set_append_right _ _ (Nat.le_refl _), Nat.sub_self]
    rfl
  have hset2 : ∀ (listed : Array Bool) (i : Nat), i < listed.size → (listed.push false).setIfInBounds i true = (listed.setIfInBounds i true).push false := fun listed i hi => by
    apply Array.ext'
    rw [Array.toList_setIfInBounds, Array.toList_push, Array.toList_push, Array.toList_setIfInBounds, List.set_append_left _ _ (by simpa using hi)]
  have hdone : ∀ (listed : Array Bool) (a : Act) (w : World) (K : Act → World → Prop), listed.size = l.length → (∀ i, i < l.length → listed.getD i false = true) → LastQ P (l ++ [o]).toArray l.length Q .normal a w → (∀ a w, Q .normal a w → K a w) →
      ∀ i ∈ Region.ready .any (l ++ [o]).toArray (listed.push false), i = l.length ∧ wpOp P (l ++ [o]).toArray Q i K a w := fun listed a w K hsz hall hq hK i hi => by
    rcases hF listed i hsz hi with ⟨rfl, _⟩ | ⟨hlt, hm⟩
    · exact ⟨rfl, wpOp_mono hK hq⟩
    · obtain ⟨h1, _⟩ := mem_ready.1 hm
      have h3 := hall i hlt
      simp only [Array.getD_eq_getD_getElem?] at h1 h3
      rw [Array.getElem?_eq_getElem (by omega)] at h1 h3
      simp only [Option.getD_some] at h1 h3
      rw [h1] at h3
      cases h3
  intro fuel
  induction fuel with
  | zero =>
    intro listed a w hsz h
    have hall := fun i hi => ready_all hord listed hsz h.1 i i (Nat.le_refl _) hi
    refine ⟨fun e => absurd (hE listed hsz hall) (by rw [e]; simp), fun i hi => ?_⟩
    obtain ⟨rfl, hw⟩ := hdone listed a w (fun a w => Region.ready .any (l ++ [o]).toArray (listed.push true) = [] ∧ Q .normal a w) hsz hall h.2 (fun a w hq => ⟨hH listed hsz hall, hq⟩) i hi
    rw [hset listed hsz]
    exact hw
  | succ fuel ih =>
    intro listed a w hsz h
    by_cases hr : Region.ready .any l.toArray listed = []
    · have hall := fun i hi => ready_all hord listed hsz hr i i (Nat.le_refl _) hi
      refine ⟨fun e => absurd (hE listed hsz hall) (by rw [e]; simp), fun i hi => ?_⟩
      obtain ⟨rfl, hw⟩ := hdone listed a w (fun a w => wpAny P .any (l ++ [o]).toArray Q (fuel + 1) (listed.push true) a w) hsz hall (h.1 hr) (fun a w hq => ⟨fun _ => hq, fun i hi => by rw [hH listed hsz hall] at hi; cases hi⟩) i hi
      rw [hset listed hsz]
      exact hw
    · refine ⟨fun e => ?_, fun i hi => ?_⟩
      · exfalso
        obtain ⟨j, hj⟩ := List.exists_mem_of_ne_nil _ hr
        obtain ⟨h1, oj, h2, h3⟩ := mem_ready.1 hj
        have hjl : j < l.length := by simpa using (Array.getElem?_eq_some_iff.1 h2).1
        have : j ∈ Region.ready .any (l ++ [o]).toArray (listed.push false) := mem_ready.2 ⟨by rw [push_getD _ _ _ _ (by omega)]; exact h1, oj, by rw [hat j hjl]; exact h2, fun e he hbn => by
          have h4 := (hordA j oj (by simpa using h2)).2 e he hbn
          rw [push_getD _ _ _ _ (by omega)]
          exact h3 e he hbn⟩
        rw [e] at this
        cases this
      · rcases hF listed i hsz hi with ⟨rfl, hall⟩ | ⟨hlt, hm⟩
        · exfalso
          obtain ⟨j, hj⟩ := List.exists_mem_of_ne_nil _ hr
          obtain ⟨h1, oj, h2, _⟩ := mem_ready.1 hj
          have hjl : j < l.length := by simpa using (Array.getElem?_eq_some_iff.1 h2).1
          have h3 := hall j hjl
          simp only [Array.getD_eq_getD_getElem?] at h1 h3
          rw [Array.getElem?_eq_getElem (by omega)] at h1 h3
          simp only [Option.getD_some] at h1 h3
          rw [h1] at h3
          cases h3
        · refine wpOp_last (hat i hlt) (fun o' ho' => (hordA i o' (by simpa using ho')).1) ⟨l[i], by simp [hlt]⟩ (fun a w hk => ?_) (h.2 i hm)
          rw [hset2 listed i (by omega)]
          exact ih _ a w (by simpa using hsz) hk
/-- the law -/
theorem wp_region_relyL {id : Nat} {df : List Deferred} {Q : Exit → Act → World → Prop} {LL : List Oper} (sp : List Nat) (G : (Nat → Bool) → World → Prop) (R : Nat → Pred) (m : List Bool) (o : Oper) (hLL : LL = LL.dropLast ++ [o]) (hm : P.follows .mixedOrders = true) (hchk : relyB LL.dropLast l0.length = true) (hla : lastB o LL.dropLast.length = true) (hmask : maskB (dstsL LL.dropLast) 0 l0.length = m)
    (hsteps : AllG P sp G LL.dropLast l0 R 0 LL.dropLast)
    (hmono : ∀ j u w w', Below w.heap.size w w' → R j u w → R j u w')
    (hgL : ∀ L L' w, (∀ i ∈ sp, L i = L' i) → G L w → G L' w) (hgb : ∀ L w w', Below w.heap.size w w' → G L w → G L w') (hg0 : G (fun _ => false) w0)
    (hsp : ∀ i ∈ sp, i < LL.dropLast.length) (hend : ∀ us w, G (fun _ => true) w → AllHeld R us w 0 LL.dropLast → Oper.wp P o ⟨(fillM m us 0 l0).toArray, df⟩ w (fun a w => Q .normal a w) Q) : (Code.region id LL.toArray true).wp P Q ⟨l0.toArray, df⟩ w0 := by
  refine wp_region_any hm ?_
  have hord : orderedB 0 LL.dropLast = true := by
    simp only [relyB, Bool.and_eq_true] at hchk
    exact hchk.1.1
  have hog : o.guard = none := by
    have h1 := hla
    simp only [lastB, Bool.and_eq_true] at h1
    exact Option.isNone_iff_eq_none.1 h1.1.1
  rw [hLL] at *
  rw [List.dropLast_concat] at *
  generalize LL.dropLast = l at *
  have h := relyG_wpAny (Q := LastQ P (l ++ [o]).toArray l.length Q) (df := df) sp G R hmono hchk hsteps hgL hgb hg0 hsp (fun us w hg hh => by
    show wpOp P (l ++ [o]).toArray Q l.length (fun a w => Q .normal a w) _ w
    have hlast : (l ++ [o]).toArray[l.length]? = some o := by simp
    unfold wpOp
    rw [hlast]
    simp only
    have hw : ∀ ys, Region.wanted o ys = true := fun ys => by unfold Region.wanted; rw [hog]
    rw [hw, if_pos rfl, fill_mask, hmask]
    exact .inl (hend us w hg hh))
  have h2 := wpAny_snoc hord hla _ _ _ _ (by simp) h
  have e1 : (l ++ [o]).toArray.size = l.toArray.size + 1 := by simp
  have e2 : Array.replicate (l ++ [o]).toArray.size false = (Array.replicate l.toArray.size false).push false := by
    rw [e1]
    exact Array.replicate_succ
  rw [e2, e1]
  exact h2
end
end Go.Proofs.Ytebflcpoecolbaa
