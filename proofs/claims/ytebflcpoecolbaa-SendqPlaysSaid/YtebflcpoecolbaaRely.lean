/-
  A region that draws its order, walked once: each operation is run in whatever world the others may have left, and says of its own value only what the others cannot turn. Values may differ from order to order (heads of new blocks). Of no one layer; no condition.
-/
import Derived.Test.YtebflcpoecolbaaMem
import Derived.BigQuiet
import Derived.Laws.Tables
import Derived.Laws.Rows
namespace Go.Proofs.Ytebflcpoecolbaa
open Go.RowKit

/-- w' is w with new blocks; of the old ones only those in X may have been written -/
structure Gro (X : Nat → Prop) (w w' : World) : Prop where
  os : w'.os = w.os
  tape : w'.tape = w.tape
  output : w'.output = w.output
  size : w.heap.size ≤ w'.heap.size
  block : ∀ k, k < w.heap.size → ¬ X k → w'.heap[k]? = w.heap[k]?
  shape : ∀ (k : Nat) (cs : Array Value) (t : TypeId) (fr : Nat × Nat), w.heap[k]? = some (Obj.cells cs t fr) → ∃ cs' : Array Value, w'.heap[k]? = some (Obj.cells cs' t fr) ∧ cs'.size = cs.size

section
variable {X : Nat → Prop} {a b c : World}
theorem Gro.refl (w : World) : Gro X w w := ⟨rfl, rfl, rfl, Nat.le_refl _, fun _ _ _ => rfl, fun _ cs _ _ h => ⟨cs, h, rfl⟩⟩
theorem Gro.trans (h : Gro X a b) (k : Gro X b c) : Gro X a c :=
  ⟨k.os.trans h.os, k.tape.trans h.tape, k.output.trans h.output, Nat.le_trans h.size k.size, fun i hi hx => (k.block i (Nat.lt_of_lt_of_le hi h.size) hx).trans (h.block i hi hx), fun i cs t fr hi => by
    obtain ⟨c1, h1, e1⟩ := h.shape i cs t fr hi
    obtain ⟨c2, h2, e2⟩ := k.shape i c1 t fr h1
    exact ⟨c2, h2, e2.trans e1⟩⟩
theorem Gro.of (h : Below a.heap.size a b) : Gro X a b := ⟨h.os, h.tape, h.output, h.size, fun k hk _ => h.block k hk, fun k cs _ _ hk => ⟨cs, (h.block k (Array.getElem?_eq_some_iff.1 hk).1).trans hk, rfl⟩⟩
theorem Gro.alloc (w : World) (o : Obj) : Gro X w (w.alloc o) := Gro.of ((Below.refl _ _).alloc (Nat.le_refl _) _)
/-- nothing below B may be written -/
theorem Gro.below {B : Nat} (h : Gro X a b) (hX : ∀ k, X k → B ≤ k) (hB : B ≤ a.heap.size) : Below B a b := ⟨h.os, h.tape, h.output, h.size, fun k hk => h.block k (by omega) fun hx => by have := hX k hx; omega⟩
theorem Gro.belowF (h : Gro (fun _ => False) a b) : Below a.heap.size a b := h.below (fun _ h => h.elim) (Nat.le_refl _)
end

abbrev Pred := Value → World → Prop
def Is (x : Value) : Pred := fun v _ => v = x
def Any : Pred := fun _ _ => True
/-- what is said of each operation's value -/
def RL (Rs : List Pred) (i : Nat) : Pred := Rs.getD i Any

def Mono (r : Pred) : Prop := ∀ u w w', Below w.heap.size w w' → r u w → r u w'
def MonoL : List Pred → Prop
  | [] => True
  | r :: rs => Mono r ∧ MonoL rs
theorem is_mono (x : Value) : Mono (Is x) := fun _ _ _ _ h => h
theorem any_mono : Mono Any := fun _ _ _ _ _ => trivial
theorem rl_mono : ∀ {Rs : List Pred}, MonoL Rs → ∀ j u w w', Below w.heap.size w w' → RL Rs j u w → RL Rs j u w'
  | [], _, _, _, _, _, _, _ => trivial
  | _ :: _, h, 0, _, _, _, hb, hr => h.1 _ _ _ hb hr
  | _ :: rs, h, j + 1, _, _, _, hb, hr => rl_mono (Rs := rs) h.2 j _ _ _ hb hr
/-- what a store into block g does not turn -/
def Stable (g : Nat) (r : Pred) : Prop := ∀ u w w', Gro (· = g) w w' → r u w → r u w'
def StL (g i : Nat) : Nat → List Pred → Prop
  | _, [] => True
  | k, r :: rs => (k = i ∨ Stable g r) ∧ StL g i (k + 1) rs
theorem is_st (g : Nat) (x : Value) : Stable g (Is x) := fun _ _ _ _ h => h
theorem rl_st {g i : Nat} : ∀ {Rs : List Pred} (k : Nat), StL g i k Rs → ∀ j u w w', k + j ≠ i → Gro (· = g) w w' → RL Rs j u w → RL Rs j u w'
  | [], _, _, _, _, _, _, _, _, _ => trivial
  | _ :: _, k, h, 0, u, w, w', hne, hb, hr => (h.1.resolve_left hne) u w w' hb hr
  | _ :: rs, k, h, j + 1, u, w, w', hne, hb, hr => rl_st (Rs := rs) (k + 1) h.2 j u w w' (by omega) hb hr
theorem Gro.setRow {w : World} {g : Nat} {old : Array Value} {t : TypeId} {fr : Nat × Nat} (hg : w.heap[g]? = some (.cells old t fr)) (cs : Array Value) (hs : cs.size = old.size) : Gro (· = g) w (w.setRow g cs) :=
  ⟨rfl, rfl, rfl, by simp, fun k _ hk => setRow_other w g k cs hk, fun k c0 t0 f0 hk => by
    by_cases hkg : k = g
    · subst hkg
      rw [hg] at hk
      cases hk
      exact ⟨cs, setRow_heap w k old cs t fr hg, hs⟩
    · exact ⟨c0, (setRow_other w g k cs hkg).trans hk, rfl⟩⟩

/-- what is asked of an operation's run: it yields a value -/
def Upon (P : Program) (K : Value → World → Prop) : Result Next → Prop
  | .ok (.value v) w' => K v w'
  | .ok .skip w' => K undef w'
  | .ok (.enter f args) w' => Calls P f args w' fun e w'' => ∃ v, e = .returned v ∧ K v w''
  | _ => False
def Run (P : Program) (o : Oper) (ev : Operand → Value) (w : World) (K : Value → World → Prop) : Prop := Upon P K ((execOp ev o).run P w)

theorem upon_mono {P : Program} {K K' : Value → World → Prop} {r : Result Next} (h : ∀ v w, K v w → K' v w) (hh : Upon P K r) : Upon P K' r := by
  cases r with
  | halt x w => cases hh
  | ok n w =>
    cases n with
    | value v => exact h _ _ hh
    | skip => exact h _ _ hh
    | enter f args => exact Calls.mono hh fun e w'' ⟨v, he, hk⟩ => ⟨v, he, h _ _ hk⟩
    | _ => exact hh.elim
theorem wp_of_run {P : Program} {o : Oper} {a : Act} {w : World} {K : Act → World → Prop} {Q : Exit → Act → World → Prop} (h : Run P o a.eval w fun v w' => K (a.put o.dst v) w') : o.wp P a w K Q := by
  unfold Run at h
  unfold Oper.wp
  generalize (execOp a.eval o).run P w = r at *
  cases r with
  | halt x w => cases h
  | ok n w =>
    cases n with
    | value v => exact h
    | skip => exact h
    | enter f args =>
      show Calls P f args w _
      refine Calls.mono h fun e w'' ⟨v, he, hk⟩ => ?_
      subst he
      exact hk
    | _ => exact h.elim

/-- the slots that a region writes -/
def dstsL (l : List Oper) : List Nat := l.filterMap (·.dst)
def valOf (o : Oper) (us : Nat → Value) : Value := match o.dst with | some s => us s | none => undef
def needsB (o : Oper) (j : Nat) : Bool := o.after.toList.any fun e => Region.binds .any e && e.on == j
def orderedB : Nat → List Oper → Bool
  | _, [] => true
  | i, o :: r => o.guard.isNone && (o.after.all fun e => !Region.binds .any e || decide (e.on < i)) && orderedB (i + 1) r
def distinctB : List Nat → Bool
  | [] => true
  | s :: r => !r.contains s && distinctB r
def relyB (l : List Oper) (n : Nat) : Bool := orderedB 0 l && distinctB (dstsL l) && (dstsL l).all (· < n)
/-- the frame behind the region: its own slots hold something, all others what they held -/
def fill (ds : List Nat) (us : Nat → Value) : Nat → List Value → List Value
  | _, [] => []
  | k, x :: r => (if ds.contains k then us k else x) :: fill ds us (k + 1) r

/-- the same by a mask that is written out -/
def maskB (ds : List Nat) : Nat → Nat → List Bool
  | _, 0 => []
  | k, n + 1 => ds.contains k :: maskB ds (k + 1) n
def fillM : List Bool → (Nat → Value) → Nat → List Value → List Value
  | true :: m, us, k, _ :: r => us k :: fillM m us (k + 1) r
  | false :: m, us, k, x :: r => x :: fillM m us (k + 1) r
  | _, _, _, _ => []
theorem fill_mask (ds : List Nat) (us : Nat → Value) : ∀ (r : List Value) (k : Nat), fill ds us k r = fillM (maskB ds k r.length) us k r
  | [], k => by simp [fill, maskB, fillM]
  | x :: r, k => by
    rw [List.length_cons]
    simp only [fill, maskB]
    cases ds.contains k <;> simp [fillM, fill_mask ds us r (k + 1)]

/-- one operation: run with whatever values its operands may have by then, in whatever world the others may have left -/
def StepOK (P : Program) (X : Nat → Prop) (w0 : World) (l : List Oper) (l0 : List Value) (R : Nat → Pred) (i : Nat) (o : Oper) : Prop :=
  ∀ (ev : Operand → Value) (w : World), Gro X w0 w → (∀ v, ev (.const v) = v) → (∀ f, ev (.func f) = .func (.func f) #[] #[]) →
    (∀ s, (dstsL l).contains s = false → ev (.tmp s) = l0.getD s undef) →
    (∀ j oj, l[j]? = some oj → needsB o j = true → match oj.dst with | some s => R j (ev (.tmp s)) w | none => R j undef w) →
    ∀ K : Value → World → Prop, (∀ v w', (Below w.heap.size w w' ∨ Gro X w w' ∧ ∀ j, j ≠ i → ∀ u, R j u w → R j u w') → (match o.dst with | some _ => R i v w' | none => R i undef w') → K v w') → Run P o ev w K
def AllOK (P : Program) (X : Nat → Prop) (w0 : World) (l : List Oper) (l0 : List Value) (R : Nat → Pred) : Nat → List Oper → Prop
  | _, [] => True
  | i, o :: r => StepOK P X w0 l l0 R i o ∧ AllOK P X w0 l l0 R (i + 1) r
def AllHeld (R : Nat → Pred) (us : Nat → Value) (w : World) : Nat → List Oper → Prop
  | _, [] => True
  | i, o :: r => R i (valOf o us) w ∧ AllHeld R us w (i + 1) r

section
variable {P : Program} {X : Nat → Prop} {w0 : World} {l : List Oper} {l0 : List Value} {R : Nat → Pred}
theorem allOK_at : ∀ (r : List Oper) (k : Nat), AllOK P X w0 l l0 R k r → ∀ i o, r[i]? = some o → StepOK P X w0 l l0 R (k + i) o
  | [], _, _, _, _, hi => by simp at hi
  | o :: r, k, h, 0, o', hi => by simp at hi; subst hi; exact h.1
  | o :: r, k, h, i + 1, o', hi => by
    simp at hi
    have := allOK_at r (k + 1) h.2 i o' hi
    rwa [show k + 1 + i = k + (i + 1) from by omega] at this
theorem allHeld_of {us : Nat → Value} {w : World} : ∀ (r : List Oper) (k : Nat), (∀ i o, r[i]? = some o → R (k + i) (valOf o us) w) → AllHeld R us w k r
  | [], _, _ => trivial
  | o :: r, k, h => ⟨h 0 o rfl, allHeld_of r (k + 1) fun i o' hi => by have := h (i + 1) o' (by simpa using hi); rwa [show k + (i + 1) = k + 1 + i from by omega] at this⟩
theorem ordered_at : ∀ (r : List Oper) (k : Nat), orderedB k r = true → ∀ i o, r[i]? = some o → o.guard = none ∧ ∀ e ∈ o.after, Region.binds .any e = true → e.on < k + i
  | [], _, _, _, _, hi => by simp at hi
  | o :: r, k, h, 0, o', hi => by
    simp at hi
    subst hi
    simp only [orderedB, Bool.and_eq_true, Option.isNone_iff_eq_none] at h
    refine ⟨h.1.1, fun e he hb => ?_⟩
    have := Array.all_eq_true_iff_forall_mem.1 h.1.2 e he
    simpa [hb] using this
  | o :: r, k, h, i + 1, o', hi => by
    simp only [orderedB, Bool.and_eq_true] at h
    simp at hi
    have := ordered_at r (k + 1) h.2 i o' hi
    rwa [show k + 1 + i = k + (i + 1) from by omega] at this
theorem distinct_at : ∀ (r : List Oper), distinctB (dstsL r) = true → ∀ (i j : Nat) (oi oj : Oper) (s : Nat), r[i]? = some oi → r[j]? = some oj → oi.dst = some s → oj.dst = some s → i = j
  | [], _, _, _, _, _, _, hi, _, _, _ => by simp at hi
  | o :: r, h, i, j, oi, oj, s, hi, hj, di, dj => by
    have mem : ∀ (k : Nat) (ok : Oper), r[k]? = some ok → ok.dst = some s → s ∈ dstsL r := fun k ok hk dk => List.mem_filterMap.2 ⟨ok, List.mem_of_getElem? hk, dk⟩
    have hr : distinctB (dstsL r) = true ∧ (o.dst = some s → s ∉ dstsL r) := by
      cases hd : o.dst with
      | none =>
        simp only [dstsL, List.filterMap_cons, hd] at h
        exact ⟨h, by simp⟩
      | some d =>
        simp only [dstsL, List.filterMap_cons, hd, distinctB, Bool.and_eq_true] at h
        refine ⟨h.2, fun e => ?_⟩
        cases e
        simpa [dstsL] using h.1
    cases i with
    | zero =>
      simp at hi
      subst hi
      cases j with
      | zero => rfl
      | succ j => exact (hr.2 di (mem j oj (by simpa using hj) dj)).elim
    | succ i =>
      cases j with
      | zero =>
        simp at hj
        subst hj
        exact (hr.2 dj (mem i oi (by simpa using hi) di)).elim
      | succ j => rw [distinct_at r hr.1 i j oi oj s (by simpa using hi) (by simpa using hj) di dj]

theorem count_set : ∀ (l : List Bool) (i : Nat), l[i]? = some false → (l.set i true).count false + 1 = l.count false
  | [], _, h => by simp at h
  | b :: r, 0, h => by simp at h; subst h; simp
  | b :: r, i + 1, h => by
    simp at h
    have := count_set r i h
    simp only [List.set_cons_succ, List.count_cons]
    omega

/-- the state of the walk -/
structure Inv (X : Nat → Prop) (w0 : World) (l : List Oper) (l0 : List Value) (df : List Deferred) (R : Nat → Pred) (listed : Array Bool) (a : Act) (w : World) : Prop where
  gro : Gro X w0 w
  lsize : listed.size = l.length
  defers : a.defers = df
  size : a.tmps.size = l0.length
  base : ∀ s, (dstsL l).contains s = false → a.tmps.getD s undef = l0.getD s undef
  held : ∀ i o, l[i]? = some o → listed.getD i false = true → R i (valOf o fun s => a.tmps.getD s undef) w

theorem put_getD_ne (a : Act) (d : Option Nat) (v : Value) (s : Nat) (h : d ≠ some s) : (a.put d v).tmps.getD s undef = a.tmps.getD s undef := by
  cases d with
  | none => rfl
  | some d =>
    have : d ≠ s := fun e => h (by rw [e])
    simp [Act.put, Array.getElem?_setIfInBounds_ne this]
theorem put_getD_eq (a : Act) (v : Value) (s : Nat) (h : s < a.tmps.size) : (a.put (some s) v).tmps.getD s undef = v := by
  simp [Act.put, h]
theorem put_size (a : Act) (d : Option Nat) (v : Value) : (a.put d v).tmps.size = a.tmps.size := by
  cases d <;> simp [Act.put]
theorem put_defers (a : Act) (d : Option Nat) (v : Value) : (a.put d v).defers = a.defers := by
  cases d <;> rfl

theorem rely_any {df : List Deferred} {Q : Exit → Act → World → Prop} (hmono : ∀ j u w w', Below w.heap.size w w' → R j u w → R j u w') (hchk : relyB l l0.length = true) (hsteps : AllOK P X w0 l l0 R 0 l)
    (hend : ∀ a w, Inv X w0 l l0 df R (Array.replicate l.length true) a w → Q .normal a w) :
    ∀ (fuel : Nat) (listed : Array Bool) (a : Act) (w : World), listed.toList.count false ≤ fuel → Inv X w0 l l0 df R listed a w → wpAny P .any l.toArray Q fuel listed a w := by
  simp only [relyB, Bool.and_eq_true] at hchk
  obtain ⟨⟨ho, hd⟩, hb⟩ := hchk
  have hord := ordered_at l 0 ho
  have hdis := distinct_at l hd
  have hstep := allOK_at l 0 hsteps
  -- nothing is ready: all is behind
  have hall : ∀ listed : Array Bool, listed.size = l.length → Region.ready .any l.toArray listed = [] → ∀ n i, i ≤ n → i < l.length → listed.getD i false = true := by
    intro listed hsz hr n
    induction n with
    | zero =>
      intro i hi hl
      by_cases hx : listed.getD i false = true
      · exact hx
      · have hx' : listed.getD i true = false := by
          simp only [Array.getD_eq_getD_getElem?] at hx ⊢
          rw [Array.getElem?_eq_getElem (by omega)] at hx ⊢
          simpa using hx
        have hm : i ∈ Region.ready .any l.toArray listed := mem_ready.2 ⟨hx', l[i], by simp [hl], fun e he hbn => by have := (hord i l[i] (List.getElem?_eq_getElem hl)).2 e he hbn; omega⟩
        rw [hr] at hm
        cases hm
    | succ n ih =>
      intro i hi hl
      by_cases hx : listed.getD i false = true
      · exact hx
      · have hx' : listed.getD i true = false := by
          simp only [Array.getD_eq_getD_getElem?] at hx ⊢
          rw [Array.getElem?_eq_getElem (by omega)] at hx ⊢
          simpa using hx
        have hm : i ∈ Region.ready .any l.toArray listed := mem_ready.2 ⟨hx', l[i], by simp [hl], fun e he hbn => by have := (hord i l[i] (List.getElem?_eq_getElem hl)).2 e he hbn; exact ih e.on (by omega) (by omega)⟩
        rw [hr] at hm
        cases hm
  have hfin : ∀ (listed : Array Bool) (a : Act) (w : World), Inv X w0 l l0 df R listed a w → Region.ready .any l.toArray listed = [] → Q .normal a w := fun listed a w hI hr => by
    refine hend a w ⟨hI.gro, by simp, hI.defers, hI.size, hI.base, fun i o hi _ => hI.held i o hi (hall listed hI.lsize hr i i (Nat.le_refl _) (List.getElem?_eq_some_iff.1 hi).1)⟩
  have hone : ∀ (listed : Array Bool) (a : Act) (w : World) (fuel : Nat), (∀ (listed : Array Bool) (a : Act) (w : World), listed.toList.count false ≤ fuel → Inv X w0 l l0 df R listed a w → wpAny P .any l.toArray Q fuel listed a w) →
      listed.toList.count false ≤ fuel + 1 → Inv X w0 l l0 df R listed a w → ∀ i ∈ Region.ready .any l.toArray listed, wpOp P l.toArray Q i (wpAny P .any l.toArray Q fuel (listed.setIfInBounds i true)) a w := by
    intro listed a w fuel ih hc hI i hi
    obtain ⟨hun, o, hio, haft⟩ := mem_ready.1 hi
    have hil : l[i]? = some o := by simpa using hio
    have hlt : i < l.length := (List.getElem?_eq_some_iff.1 hil).1
    have hgd := (hord i o hil).1
    have hst := hstep i o hil
    rw [Nat.zero_add] at hst
    have hlist : listed.toList[i]? = some false := by
      simp only [Array.getD_eq_getD_getElem?] at hun
      rw [Array.getElem?_eq_getElem (by have := hI.lsize; omega)] at hun
      rw [Array.getElem?_toList, Array.getElem?_eq_getElem (by have := hI.lsize; omega)]
      simpa using hun
    have hcnt : (listed.setIfInBounds i true).toList.count false ≤ fuel := by
      rw [Array.toList_setIfInBounds]
      have := count_set _ _ hlist
      omega
    unfold wpOp
    rw [hio]
    simp only
    rw [if_pos (by simp [Region.wanted, hgd])]
    refine .inl (wp_of_run ?_)
    refine hst a.eval w hI.gro (fun _ => rfl) (fun _ => rfl) (fun s hs => hI.base s hs) (fun j oj hj hn => ?_) _ fun v w' hgp hR => ih _ _ _ hcnt ?_
    · obtain ⟨e, he, heq⟩ := List.any_eq_true.1 hn
      simp only [Bool.and_eq_true, beq_iff_eq] at heq
      have := haft e (Array.mem_toList_iff.1 he) heq.1
      rw [heq.2] at this
      have hh := hI.held j oj hj this
      cases hdj : oj.dst with
      | none => simp only [valOf, hdj] at hh; exact hh
      | some s => simp only [valOf, hdj] at hh; exact hh
    · have hg : Gro X w w' := hgp.elim (fun h => Gro.of h) (fun h => h.1)
      have hpres : ∀ j, j ≠ i → ∀ u, R j u w → R j u w' := hgp.elim (fun h j _ u hr => hmono j u w w' h hr) (fun h => h.2)
      refine ⟨hI.gro.trans hg, by simp [hI.lsize], by rw [put_defers]; exact hI.defers, by rw [put_size]; exact hI.size, fun s hs => ?_, fun j oj hj hlj => ?_⟩
      · rw [put_getD_ne]
        · exact hI.base s hs
        · intro hd
          have : s ∈ dstsL l := List.mem_filterMap.2 ⟨o, List.mem_of_getElem? hil, hd⟩
          have h2 := List.contains_iff_mem.2 this
          rw [hs] at h2
          cases h2
      · by_cases hji : j = i
        · subst hji
          rw [hil] at hj
          cases hj
          cases hdo : o.dst with
          | none =>
            simp only [hdo] at hR
            simp only [valOf, hdo]
            exact hR
          | some s =>
            have hs : s < a.tmps.size := by
              have : s ∈ dstsL l := List.mem_filterMap.2 ⟨o, List.mem_of_getElem? hil, hdo⟩
              have := List.all_eq_true.1 hb s this
              rw [hI.size]
              simpa using this
            simp only [hdo] at hR
            simp only [valOf, hdo]
            rw [put_getD_eq _ _ _ hs]
            exact hR
        · have h1 : listed.getD j false = true := by
            rwa [getD_set_ne false (Ne.symm hji)] at hlj
          have h2 := hpres j hji _ (hI.held j oj hj h1)
          have h3 : (valOf oj fun s => (a.put o.dst v).tmps.getD s undef) = valOf oj fun s => a.tmps.getD s undef := by
            cases hdj : oj.dst with
            | none => simp only [valOf, hdj]
            | some s =>
              simp only [valOf, hdj]
              refine put_getD_ne _ _ _ _ fun hd => hji ?_
              exact (hdis i j o oj s hil hj hd hdj).symm
          rw [h3]
          exact h2
  intro fuel
  induction fuel with
  | zero =>
    intro listed a w hc hI
    have hr : Region.ready .any l.toArray listed = [] := by
      rw [List.eq_nil_iff_forall_not_mem]
      intro i hi
      obtain ⟨hun, o, hio, _⟩ := mem_ready.1 hi
      have hlt : i < l.length := (List.getElem?_eq_some_iff.1 (show l[i]? = some o by simpa using hio)).1
      have hmem : false ∈ listed.toList := by
        simp only [Array.getD_eq_getD_getElem?] at hun
        rw [Array.getElem?_eq_getElem (by have := hI.lsize; omega)] at hun
        have hf : listed[i]'(by have := hI.lsize; omega) = false := by simpa using hun
        rw [← hf]
        simp
      have := List.count_pos_iff.2 hmem
      omega
    exact ⟨hr, hfin listed a w hI hr⟩
  | succ fuel ih =>
    intro listed a w hc hI
    exact ⟨fun hr => hfin listed a w hI hr, fun i hi => hone listed a w fuel ih hc hI i hi⟩

theorem fill_get (ds : List Nat) (us : Nat → Value) : ∀ (r : List Value) (k i : Nat), (fill ds us k r)[i]? = (r[i]?).map fun x => if ds.contains (k + i) then us (k + i) else x
  | [], _, _ => by simp [fill]
  | x :: r, k, 0 => by simp [fill]
  | x :: r, k, i + 1 => by
    simp only [fill, List.getElem?_cons_succ]
    rw [fill_get ds us r (k + 1) i, show k + 1 + i = k + (i + 1) from by omega]

/-- the law -/
theorem wp_region_rely0 {id : Nat} {df : List Deferred} {Q : Exit → Act → World → Prop} (X : Nat → Prop) (R : Nat → Pred) (hm : P.follows .mixedOrders = true) (hmono : ∀ j u w w', Below w.heap.size w w' → R j u w → R j u w') (hchk : relyB l l0.length = true)
    (hsteps : AllOK P X w0 l l0 R 0 l)
    (hend : ∀ us w, Gro X w0 w → AllHeld R us w 0 l → Q .normal ⟨(fill (dstsL l) us 0 l0).toArray, df⟩ w) : (Code.region id l.toArray true).wp P Q ⟨l0.toArray, df⟩ w0 := by
  refine wp_region_any hm (rely_any (R := R) (X := X) (w0 := w0) (df := df) hmono hchk hsteps ?_ _ _ _ _ ?_ ?_)
  · intro a w hI
    have hact : a = ⟨(fill (dstsL l) (fun s => a.tmps.getD s undef) 0 l0).toArray, df⟩ := by
      obtain ⟨tmps, defers⟩ := a
      have h1 := hI.defers
      have h2 := hI.size
      simp only at h1 h2
      subst h1
      congr 1
      apply Array.ext_getElem?
      intro i
      refine Eq.trans ?_ (show (fill (dstsL l) (fun s => tmps.getD s undef) 0 l0)[i]? = _ from (List.getElem?_toArray ..).symm)
      rw [fill_get, Nat.zero_add]
      by_cases hi : i < l0.length
      · rw [List.getElem?_eq_getElem hi, Option.map_some, Array.getElem?_eq_getElem (by omega)]
        congr 1
        by_cases hc : (dstsL l).contains i = true
        · rw [if_pos hc]
          simp only [Array.getD_eq_getD_getElem?]
          rw [Array.getElem?_eq_getElem (by omega)]
          rfl
        · rw [if_neg hc]
          have := hI.base i (by simpa using hc)
          simp only [Array.getD_eq_getD_getElem?, List.getD_eq_getElem?_getD] at this
          rw [Array.getElem?_eq_getElem (by omega), List.getElem?_eq_getElem hi] at this
          exact this
      · rw [List.getElem?_eq_none (by omega), Array.getElem?_eq_none (by omega)]
        rfl
    rw [hact]
    refine hend _ w hI.gro (allHeld_of l 0 fun i o hi => ?_)
    rw [Nat.zero_add]
    refine hI.held i o hi ?_
    have hlt := (List.getElem?_eq_some_iff.1 hi).1
    simp [hlt]
  · have : (Array.replicate l.toArray.size false).toList.count false = l.length := by simp
    rw [this]
    simp
  · exact ⟨⟨rfl, rfl, rfl, Nat.le_refl _, fun _ _ _ => rfl, fun _ cs _ _ h => ⟨cs, h, rfl⟩⟩, by simp, rfl, by simp, fun s _ => by simp [List.getD_eq_getElem?_getD], fun i o _ h => by
      have : (Array.replicate l.toArray.size false).getD i false = false := by
        simp only [Array.getD_eq_getD_getElem?, Array.getElem?_replicate]
        split <;> rfl
      rw [this] at h
      cases h⟩
/-- the law, the frame behind the region by a mask -/
theorem wp_region_rely {id : Nat} {df : List Deferred} {Q : Exit → Act → World → Prop} (X : Nat → Prop) (R : Nat → Pred) (m : List Bool) (hm : P.follows .mixedOrders = true) (hchk : relyB l l0.length = true) (hmask : maskB (dstsL l) 0 l0.length = m)
    (hsteps : AllOK P X w0 l l0 R 0 l)
    (hmono : ∀ j u w w', Below w.heap.size w w' → R j u w → R j u w')
    (hend : ∀ us w, Gro X w0 w → AllHeld R us w 0 l → Q .normal ⟨(fillM m us 0 l0).toArray, df⟩ w) : (Code.region id l.toArray true).wp P Q ⟨l0.toArray, df⟩ w0 :=
  wp_region_rely0 X R hm hmono hchk hsteps fun us w hg hh => by
    rw [fill_mask, hmask]
    exact hend us w hg hh
end
/-- 'len(b)' -/
theorem run_lenE {P : Program} {ev : Operand → Value} {o : Oper} {w : World} (x : Operand) (t : TypeId) (e : TypeId) (ht : P.underlying t = some (.slice e)) (ho : o.op = .call { callee := .builtin .len, args := #[x], argTypes := #[t] }) {A : Option Addr} {n c : Nat} (hx : ev x = .slice A n c) : (execOp ev o).run P w = .ok (.value (.int .i64 n)) w := by
  simp [execOp, ho, resolve, invoke, builtin, hx, Builtin.len_, goInt, run_underlying ht]
/-- a whole variable read at whatever address -/
theorem run_loadVar_at {P : Program} (w : World) (a : Addr) (ty : TypeId) (cs : List Value) (d : TypeDesc) (hc : ∀ j v, cs[j]? = some v → w.cell? (a.add j) = some v)
    (hu : P.underlying ty = some d) (hd : (match d with | .struct _ | .array _ _ => true | _ => false) = true) (hi : (P.info? ty).map (·.size) = some cs.length) :
    (loadVar ty a).run P w = .ok (.agg cs.toArray) w := by
  have hl := run_loadCells_list (P := P) w a cs hc
  cases hq : P.info? ty with
  | none => simp [hq] at hi
  | some i =>
    have hs : i.size = cs.length := by simpa [hq] using hi
    have hagg : (isAgg ty).run P w = .ok true w := by
      unfold isAgg
      rw [Sem.run_bind, run_underlying hu w]
      cases d <;> simp_all
    simp [loadVar, Sem.run_bind, hagg, sizeOf, typeInfo, hq, hs, hl]
theorem run_loadE {P : Program} {ev : Operand → Value} {o : Oper} {w : World} (ty : TypeId) (x : Operand) (ho : o.op = .load ty x) {a : Addr} (hx : ev x = .pointer (some a)) {v : Value} (hl : (loadVar ty a).run P w = .ok v w) : (execOp ev o).run P w = .ok (.value v) w := by
  simp only [execOp, ho, hx, Instr.loadAt, Instr.sureAddr, Sem.run_bind, Sem.run_pure, Result.andThen_ok, hl]
theorem run_storeE {P : Program} {ev : Operand → Value} {o : Oper} {w w' : World} (ty : TypeId) (x y : Operand) (ho : o.op = .store ty x y) {a : Addr} (hx : ev x = .pointer (some a)) {v : Value} (hy : ev y = v) (hl : (storeVar ty a v).run P w = .ok () w') : (execOp ev o).run P w = .ok .skip w' := by
  simp only [execOp, ho, hx, hy, Instr.storeAt, Instr.sureAddr, Sem.run_bind, Sem.run_pure, Result.andThen_ok, hl]
end Go.Proofs.Ytebflcpoecolbaa
