/-
  Timers in order: laid from behind they stand where they belong. Plain mathematics; a step's law for append. No condition.
-/
import Derived.Test.YtljochpomgjjeaaTm
namespace Go.Proofs.Ytljochpomgjjeaa
open Go.RowKit

def Sorted (L : List Tm) : Prop := L.Pairwise (fun a b => a.due ≤ b.due)
theorem ins_at {L : List Tm} (hs : Sorted L) {t : Tm} {k : Nat} (hk : k ≤ L.length) (h1 : ∀ j x, k ≤ j → L[j]? = some x → t.due < x.due) (h2 : ∀ x, 0 < k → L[k - 1]? = some x → x.due ≤ t.due) : insT t L = L.take k ++ t :: L.drop k := by
  have hlow : ∀ x ∈ L.take k, (fun x : Tm => decide (x.due ≤ t.due)) x = true := fun x hx => by
    obtain ⟨j, hj, rfl⟩ := List.mem_iff_getElem.1 hx
    rw [List.length_take] at hj
    have hk0 : 0 < k := by omega
    have hlast := h2 L[k - 1] hk0 (List.getElem?_eq_getElem (by omega))
    rw [List.getElem_take]
    refine decide_eq_true ?_
    by_cases hjk : j = k - 1
    · simp only [hjk]
      exact hlast
    · have := List.pairwise_iff_getElem.1 hs j (k - 1) (by omega) (by omega) (by omega)
      omega
  have hhigh : ∀ x, (L.drop k).head? = some x → decide (x.due ≤ t.due) = false := fun x hx => by
    rw [List.head?_drop] at hx
    exact decide_eq_false (by have := h1 k x (Nat.le_refl _) hx; omega)
  unfold insT
  have hsplit : L = L.take k ++ L.drop k := (List.take_append_drop k L).symm
  have e1 : L.takeWhile (fun x => decide (x.due ≤ t.due)) = L.take k := by
    conv => lhs; rw [hsplit]
    rw [List.takeWhile_append_of_pos hlow]
    cases hd : L.drop k with
    | nil => simp
    | cons y r =>
      have := hhigh y (by rw [hd]; rfl)
      rw [List.takeWhile_cons, this]
      simp
  have e2 : L.dropWhile (fun x => decide (x.due ≤ t.due)) = L.drop k := by
    conv => lhs; rw [hsplit]
    rw [List.dropWhile_append_of_pos hlow]
    cases hd : L.drop k with
    | nil => simp
    | cons y r =>
      have := hhigh y (by rw [hd]; rfl)
      rw [List.dropWhile_cons, this]
      simp
  rw [e1, e2]
theorem ins_split {L : List Tm} (hs : Sorted L) (t : Tm) : ∃ k, k ≤ L.length ∧ (∀ j x, k ≤ j → L[j]? = some x → t.due < x.due) ∧ (∀ j x, j < k → L[j]? = some x → x.due ≤ t.due) := by
  induction L with
  | nil => exact ⟨0, Nat.le_refl _, fun j x _ h => (by cases h), fun j x hj => by omega⟩
  | cons y L ih =>
    obtain ⟨hy, hL⟩ := List.pairwise_cons.1 hs
    obtain ⟨k, hk, h1, h2⟩ := ih hL
    by_cases hyt : y.due ≤ t.due
    · refine ⟨k + 1, by simpa using hk, fun j x hj hx => ?_, fun j x hj hx => ?_⟩
      · obtain ⟨j, rfl⟩ : ∃ j', j = j' + 1 := ⟨j - 1, by omega⟩
        exact h1 j x (by omega) (by simpa using hx)
      · cases j with
        | zero => simp at hx; rw [← hx]; exact hyt
        | succ j => exact h2 j x (by omega) (by simpa using hx)
    · refine ⟨0, Nat.zero_le _, fun j x _ hx => ?_, fun j x hj => by omega⟩
      cases j with
      | zero => simp at hx; rw [← hx]; omega
      | succ j =>
        have := hy x (List.mem_of_getElem? (by simpa using hx))
        omega
theorem ins_sorted {L : List Tm} (hs : Sorted L) (t : Tm) : Sorted (insT t L) := by
  obtain ⟨k, hk, h1, h2⟩ := ins_split hs t
  rw [ins_at hs hk h1 (fun x hx hl => h2 (k - 1) x (by omega) hl)]
  unfold Sorted at *
  have hp := hs
  rw [← List.take_append_drop k L, List.pairwise_append] at hp
  rw [List.pairwise_append, List.pairwise_cons]
  have hlo : ∀ a ∈ L.take k, a.due ≤ t.due := fun a ha => by
    obtain ⟨j, hj, rfl⟩ := List.mem_iff_getElem.1 ha
    rw [List.length_take] at hj
    exact h2 j _ (by omega) (by rw [List.getElem_take]; exact List.getElem?_eq_getElem (by omega))
  have hhi : ∀ b ∈ L.drop k, t.due < b.due := fun b hb => by
    obtain ⟨j, hj, rfl⟩ := List.mem_iff_getElem.1 hb
    rw [List.length_drop] at hj
    exact h1 (k + j) _ (by omega) (by rw [List.getElem_drop]; exact List.getElem?_eq_getElem (by omega))
  refine ⟨hp.1, ⟨fun b hb => Nat.le_of_lt (hhi b hb), hp.2.1⟩, fun a ha b hb => ?_⟩
  rcases List.mem_cons.1 hb with rfl | hb
  · exact hlo a ha
  · exact hp.2.2 a ha b hb
theorem sort_snoc {S : List Tm} {i : Nat} {x : Tm} (h : S[i]? = some x) : sortT (S.take (i + 1)) = insT x (sortT (S.take i)) := by
  have hi := (List.getElem?_eq_some_iff.1 h).1
  unfold sortT
  rw [List.take_succ_eq_append_getElem hi, List.foldl_append, (List.getElem?_eq_some_iff.1 h).2]
  rfl
theorem sort_app (S : List Tm) (t : Tm) : sortT (S ++ [t]) = insT t (sortT S) := by
  unfold sortT
  rw [List.foldl_append]
  rfl
theorem foldl_sorted : ∀ (S L : List Tm), Sorted L → Sorted (S.foldl (fun L t => insT t L) L)
  | [], _, h => h
  | t :: S, _, h => foldl_sorted S _ (ins_sorted h t)
theorem sort_sorted (S : List Tm) : Sorted (sortT S) := foldl_sorted S [] List.Pairwise.nil
theorem ins_len (t : Tm) (L : List Tm) : (insT t L).length = L.length + 1 := by
  unfold insT
  have := congrArg List.length (List.takeWhile_append_dropWhile (p := fun x : Tm => decide (x.due ≤ t.due)) (l := L))
  rw [List.length_append] at this ⊢
  rw [List.length_cons]
  omega
theorem foldl_len : ∀ (S L : List Tm), (S.foldl (fun L t => insT t L) L).length = L.length + S.length
  | [], L => rfl
  | t :: S, L => by
    rw [List.foldl_cons, foldl_len S, ins_len, List.length_cons]
    omega
theorem sort_len (S : List Tm) : (sortT S).length = S.length := by
  unfold sortT
  rw [foldl_len]
  simp
/-- what is left out may be left out ahead -/
theorem ins_filter {L : List Tm} (hs : Sorted L) (p : Tm → Bool) (t : Tm) : (insT t L).filter p = if p t = true then insT t (L.filter p) else L.filter p := by
  obtain ⟨k, hk, h1, h2⟩ := ins_split hs t
  rw [ins_at hs hk h1 (fun x hx hl => h2 (k - 1) x (by omega) hl), List.filter_append, List.filter_cons]
  have hlo : ∀ a ∈ L.take k, a.due ≤ t.due := fun a ha => by
    obtain ⟨j, hj, rfl⟩ := List.mem_iff_getElem.1 ha
    rw [List.length_take] at hj
    exact h2 j _ (by omega) (by rw [List.getElem_take]; exact List.getElem?_eq_getElem (by omega))
  have hhi : ∀ b ∈ L.drop k, t.due < b.due := fun b hb => by
    obtain ⟨j, hj, rfl⟩ := List.mem_iff_getElem.1 hb
    rw [List.length_drop] at hj
    exact h1 (k + j) _ (by omega) (by rw [List.getElem_drop]; exact List.getElem?_eq_getElem (by omega))
  have hL : L.filter p = (L.take k).filter p ++ (L.drop k).filter p := by rw [← List.filter_append, List.take_append_drop]
  cases hp : p t
  · simp [hL]
  · simp only [if_true]
    rw [hL]
    have hlo2 : ∀ a ∈ (L.take k).filter p, (fun x : Tm => decide (x.due ≤ t.due)) a = true := fun a ha => decide_eq_true (hlo a (List.mem_filter.1 ha).1)
    unfold insT
    rw [List.takeWhile_append_of_pos hlo2, List.dropWhile_append_of_pos hlo2]
    cases hd : (L.drop k).filter p with
    | nil => simp
    | cons y r =>
      have hy : t.due < y.due := hhi y (List.mem_filter.1 (by rw [hd]; exact List.mem_cons_self ..)).1
      have : decide (y.due ≤ t.due) = false := decide_eq_false (by omega)
      rw [List.takeWhile_cons, List.dropWhile_cons, this]
      simp
theorem foldl_filter (p : Tm → Bool) : ∀ (S L : List Tm), Sorted L → (S.foldl (fun L t => insT t L) L).filter p = (S.filter p).foldl (fun L t => insT t L) (L.filter p)
  | [], _, _ => rfl
  | t :: S, L, h => by
    rw [List.foldl_cons, foldl_filter p S _ (ins_sorted h t), ins_filter h]
    cases hp : p t
    · rw [List.filter_cons, hp]
      simp
    · rw [List.filter_cons, hp]
      simp
theorem sort_filter (p : Tm → Bool) (S : List Tm) : (sortT S).filter p = sortT (S.filter p) := foldl_filter p S [] List.Pairwise.nil
/-- of one time the order is that in which they were set -/
theorem sort_same {n : Nat} : ∀ (S : List Tm), (∀ x ∈ S, x.due = n) → sortT S = S := by
  have h : ∀ (S L : List Tm), (∀ x ∈ S, x.due = n) → (∀ x ∈ L, x.due = n) → S.foldl (fun L t => insT t L) L = L ++ S := by
    intro S
    induction S with
    | nil => intro L _ _; simp
    | cons t S ih =>
      intro L hS hL
      have ht := hS t (List.mem_cons_self ..)
      have hall : ∀ x ∈ L, (fun x : Tm => decide (x.due ≤ t.due)) x = true := fun x hx => decide_eq_true (by rw [hL x hx, ht]; exact Nat.le_refl _)
      have e : insT t L = L ++ [t] := by
        unfold insT
        have e1 := List.takeWhile_append_of_pos (l₂ := []) hall
        have e2 := List.dropWhile_append_of_pos (l₂ := []) hall
        simp only [List.append_nil, List.takeWhile_nil, List.dropWhile_nil] at e1 e2
        rw [e1, e2]
      rw [List.foldl_cons, e, ih (L ++ [t]) (fun x hx => hS x (List.mem_cons_of_mem _ hx)) (fun x hx => by
        rcases List.mem_append.1 hx with hx | hx
        · exact hL x hx
        · simp at hx
          rw [hx]
          exact ht)]
      simp
  intro S hS
  unfold sortT
  rw [h S [] hS (by simp)]
  simp
theorem due_same (n : Nat) (S : List Tm) : (sortT S).filter (isDue n) = S.filter (isDue n) := by
  rw [sort_filter]
  exact sort_same (n := n) _ fun x hx => of_decide_eq_true (List.mem_filter.1 hx).2
section
variable {P : Program}
/-- append of what is read onto a row of the call's own, at a step of a region that draws -/
theorem step_append_rdk {w : World} {ops : Array Oper} {o : Oper} {a : Act} {K : Act → World → Prop} {Q : Exit → Act → World → Prop} {E : Prop} (hgd : o.guard = none) (s x : Operand) (t : TypeId)
    (ho : o.op = .call { callee := .builtin .append, args := #[s, x], argTypes := #[t, t] })
    (base : Nat) (e : TypeId) (i : TypeInfo) (z : Value) (size bytes : Nat) (ht : P.underlying t = some (.slice e)) (hi : P.info? e = some i) (hz : i.zero = some z)
    (hsize : i.size = size) (hby : i.bytes = bytes) (hzs : z.cells.size = size) (hsz : 0 < size)
    (v : Value) (n : Nat) (xs : List Value) (hs : a.eval s = v) (hown : w.ownsRow base e size v n xs)
    (A : Option Addr) (m c : Nat) (news : List Value) (hx : a.eval x = .slice A m c) (hA : A = none → c = 0) (hl : news.length = m * size) {lo hi' : Nat} (hrd : Rd w lo hi' A news) (h1 : ∀ u ∈ news, u.oneCell' = true)
    (h63 : n + m ≤ maxLen) (hbytes : (n + m) * bytes ≤ 140737488355328) (hbase : base ≤ w.heap.size)
    (h : ∀ v' w', w'.ownsRow base e size v' (n + m) (xs ++ news) → w.grownBy w' v.ownBlock → (v'.ownBlock = v.ownBlock ∨ v'.ownBlock = some w.heap.size) → K (a.put o.dst v') w') :
    if Region.wanted o (yielded ops a.tmps) = true then Oper.wp P o a w K Q else E := by
  have hw : Region.wanted o (yielded ops a.tmps) = true := by simp [Region.wanted, hgd]
  rw [if_pos hw]
  obtain ⟨v', w', hr, h2, h3, h4⟩ := run_append_rdk (P := P) (w := w) base t o.type e i z size bytes ht hi hz hsize hby hzs hsz v n xs hown A m c news hA hl hrd h1 h63 hbytes hbase
  unfold Oper.wp execOp
  simp only [ho, resolve, invoke, builtin, Sem.run_bind, Sem.run_pure, Result.andThen_ok, List.map_toArray, List.map_cons, List.map_nil, hs, hx, hr]
  exact h v' w' h2 h3 h4
end
end Go.Proofs.Ytljochpomgjjeaa
