/-
  Wheels: what right ones are, that they stay right, how the code's order and the document's go together. Plain mathematics. No condition.
-/
import Derived.Test.YtljochpomgjjeaaTs
namespace Go.Proofs.Ytljochpomgjjeaa
open Go.RowKit

def before (a b : Tm) : Prop := a.id ≠ b.id ∧ a.due ≤ b.due
instance (a b : Tm) : Decidable (before a b) := inferInstanceAs (Decidable (_ ∧ _))
def rightW (n : Nat) (T : List Tm) : Bool := decide (T.length ≤ 64 ∧ n ≤ 4611686018427387904 ∧ T.Pairwise before ∧ ∀ t ∈ T, n < t.due)
theorem rightW_iff {n : Nat} {T : List Tm} : rightW n T = true ↔ T.length ≤ 64 ∧ n ≤ 4611686018427387904 ∧ T.Pairwise before ∧ ∀ t ∈ T, n < t.due := decide_eq_true_iff
/-- when something is due, and whether -/
def dueC (T : List Tm) (id : Int) : Nat × Bool := match T.find? (fun t => decide (t.id = id)) with
  | some t => (t.due, true)
  | none => (0, false)
theorem right_sub {n : Nat} {T U : List Tm} (h : rightW n T = true) (hs : U.Sublist T) : rightW n U = true := by
  obtain ⟨h1, h2, h3, h4⟩ := rightW_iff.1 h
  exact rightW_iff.2 ⟨Nat.le_trans hs.length_le h1, h2, h3.sublist hs, fun t ht => h4 t (hs.subset ht)⟩
theorem sorted_of {n : Nat} {T : List Tm} (h : rightW n T = true) : Sorted T := (rightW_iff.1 h).2.2.1.imp fun h => h.2
theorem ins_mem {t x : Tm} {L : List Tm} : x ∈ insT t L ↔ x = t ∨ x ∈ L := by
  unfold insT
  rw [List.mem_append, List.mem_cons]
  conv => rhs; rw [← List.takeWhile_append_dropWhile (p := fun x : Tm => decide (x.due ≤ t.due)) (l := L), List.mem_append]
  constructor
  · rintro (h | h | h)
    · exact .inr (.inl h)
    · exact .inl h
    · exact .inr (.inr h)
  · rintro (h | h | h)
    · exact .inr (.inl h)
    · exact .inl h
    · exact .inr (.inr h)
theorem right_ins {n : Nat} {L : List Tm} {t : Tm} (h : rightW n L = true) (hl : L.length < 64) (ht : n < t.due) (hid : ∀ x ∈ L, x.id ≠ t.id) : rightW n (insT t L) = true := by
  have hs := sorted_of h
  obtain ⟨_, h2, h3, h4⟩ := rightW_iff.1 h
  refine rightW_iff.2 ⟨by rw [ins_len]; omega, h2, ?_, fun x hx => ?_⟩
  · have hsi := ins_sorted hs t
    obtain ⟨k, hk, k1, k2⟩ := ins_split hs t
    have he := ins_at hs hk k1 (fun x hx hl => k2 (k - 1) x (by omega) hl)
    have hne : (insT t L).Pairwise (fun a b => a.id ≠ b.id) := by
      rw [he]
      have hp : L.Pairwise (fun a b => a.id ≠ b.id) := h3.imp fun h => h.1
      rw [← List.take_append_drop k L, List.pairwise_append] at hp
      rw [List.pairwise_append, List.pairwise_cons]
      refine ⟨hp.1, ⟨fun b hb => (hid b (List.mem_of_mem_drop hb)).symm, hp.2.1⟩, fun a ha b hb => ?_⟩
      rcases List.mem_cons.1 hb with rfl | hb
      · exact hid a (List.mem_of_mem_take ha)
      · exact hp.2.2 a ha b hb
    exact hne.imp₂ (fun a b h1 h2 => ⟨h1, h2⟩) hsi
  · rcases ins_mem.1 hx with rfl | hx
    · exact ht
    · exact h4 x hx
theorem right_set {n : Nat} {T : List Tm} {id : Int} {after : Nat} (h : rightW n T = true) : rightW n (setC n T id after).1 = true := by
  unfold setC
  split
  · exact h
  · split
    · exact h
    · refine right_ins (right_sub h List.filter_sublist) (by omega) (by simp only; omega) fun x hx => ?_
      have := (List.mem_filter.1 hx).2
      exact of_decide_eq_true this
theorem right_stop {n : Nat} {T : List Tm} {id : Int} (h : rightW n T = true) : rightW n (T.filter (notI id)) = true := right_sub h List.filter_sublist
theorem right_tick {n : Nat} {T : List Tm} (h : rightW n T = true) (hn : n < 4611686018427387904) : rightW (n + 1) (T.filter (notDue (n + 1))) = true := by
  obtain ⟨h1, _, h3, h4⟩ := rightW_iff.1 (right_sub h (List.filter_sublist (p := notDue (n + 1))))
  refine rightW_iff.2 ⟨h1, by omega, h3, fun t ht => ?_⟩
  have h5 := h4 t ht
  have h6 : t.due ≠ n + 1 := of_decide_eq_true (List.mem_filter.1 ht).2
  omega
theorem right_new (n : Nat) (h : n ≤ 4611686018427387904) : rightW n [] = true := rightW_iff.2 ⟨Nat.zero_le _, h, List.Pairwise.nil, fun t ht => by cases ht⟩
/-- the code's Set of the sorted timers is the document's, sorted -/
theorem set_sort (n : Nat) (S : List Tm) (id : Int) (after : Nat) : setC n (sortT S) id after = (sortT (setD n S id after).1, (setD n S id after).2) := by
  unfold setC setD
  rw [sort_filter, sort_len]
  split
  · rfl
  · split
    · rfl
    · rw [sort_app]
theorem some_sort (S : List Tm) (id : Int) : someD (sortT S) id = someD S id := by
  unfold someD
  rw [sort_filter, sort_len, sort_len]
theorem due_sort (n : Nat) (S : List Tm) : dueX (n) (sortT S) = dueX n S := by
  unfold dueX
  rw [due_same]
theorem foldl_mem {x : Tm} : ∀ (S L : List Tm), x ∈ S.foldl (fun L t => insT t L) L ↔ x ∈ L ∨ x ∈ S
  | [], L => by simp
  | t :: S, L => by
    rw [List.foldl_cons, foldl_mem S, ins_mem, List.mem_cons]
    constructor
    · rintro ((h | h) | h)
      · exact .inr (.inl h)
      · exact .inl h
      · exact .inr (.inr h)
    · rintro (h | h | h)
      · exact .inl (.inr h)
      · exact .inl (.inl h)
      · exact .inr h
theorem sort_mem {x : Tm} {S : List Tm} : x ∈ sortT S ↔ x ∈ S := by
  unfold sortT
  rw [foldl_mem]
  simp
/-- what Due tells is so -/
def foundD (S : List Tm) (id : Int) (at_ : Nat) : Bool := S.any fun t => decide (t.id = id) && decide (t.due = at_)
theorem due_found (S : List Tm) (id : Int) : foundD S id (dueC (sortT S) id).1 = (dueC (sortT S) id).2 ∧ ((dueC (sortT S) id).2 = false → (dueC (sortT S) id).1 = 0) := by
  unfold dueC
  cases hf : (sortT S).find? (fun t => decide (t.id = id)) with
  | none =>
    refine ⟨?_, fun _ => rfl⟩
    rw [List.find?_eq_none] at hf
    show foundD S id 0 = false
    unfold foundD
    rw [List.any_eq_false]
    intro x hx
    have := hf x (sort_mem.2 hx)
    simp at this
    simp [this]
  | some t =>
    refine ⟨?_, fun h => by cases h⟩
    have h1 := List.find?_some hf
    have h2 := sort_mem.1 (List.mem_of_find?_eq_some hf)
    show foundD S id t.due = true
    unfold foundD
    rw [List.any_eq_true]
    exact ⟨t, h2, by simpa using h1⟩
theorem found_snoc {S : List Tm} {i : Nat} {x : Tm} (h : S[i]? = some x) (id : Int) (d : Nat) : foundD (S.take (i + 1)) id d = (foundD (S.take i) id d || (decide (x.id = id) && decide (x.due = d))) := by
  have hi := (List.getElem?_eq_some_iff.1 h).1
  unfold foundD
  rw [List.take_succ_eq_append_getElem hi, List.any_append, (List.getElem?_eq_some_iff.1 h).2]
  simp
theorem setD_len (n : Nat) (S : List Tm) (id : Int) (after : Nat) (h : S.length ≤ 64) : (setD n S id after).1.length ≤ 64 := by
  unfold setD
  split
  · exact h
  · split
    · exact h
    · simp
      omega
end Go.Proofs.Ytljochpomgjjeaa
