/-
  Which cards a bridge knows that saw some in order: those seen last, each once. No program's walk, no condition.
-/
import Derived.Test.YtecbelnmdimnkaaFaM
namespace Go.Proofs.Ytecbelnmdimnkaa
open Go.RowKit

/-- what is known when these were seen -/
def KF (S : List Ln) : List Ln := S.foldl (fun K x => seeP K x.m x.p) []
theorem kf_snoc (S : List Ln) (x : Ln) : KF (S ++ [x]) = seeP (KF S) x.m x.p := by simp [KF]
theorem kf_le (S : List Ln) : (KF S).length ≤ 16 := by
  rcases List.eq_nil_or_concat S with rfl | ⟨S', x, rfl⟩
  · decide
  · rw [List.concat_eq_append, kf_snoc]
    exact seeP_le _ _ _
def notM (a : Mac) (y : Ln) : Bool := !isM a y
theorem notM_iff (a : Mac) (y : Ln) : notM a y = true ↔ y.m ≠ a := by simp [notM, isM]
/-- each card once, the first -/
def ddf : List Ln → List Ln
  | [] => []
  | x :: l => x :: (ddf l).filter (notM x.m)
def Nod (L : List Ln) : Prop := L.Pairwise fun a b => a.m ≠ b.m
theorem ddf_nod : ∀ l : List Ln, Nod (ddf l)
  | [] => List.Pairwise.nil
  | x :: l => by
    refine List.pairwise_cons.2 ⟨fun y hy => ?_, (ddf_nod l).filter _⟩
    have := (notM_iff _ _).1 (List.mem_filter.1 hy).2
    exact fun e => this e.symm
theorem ddf_mem : ∀ {l : List Ln} {y : Ln}, y ∈ ddf l → y ∈ l
  | [], _, h => h
  | x :: l, y, h => by
    rcases List.mem_cons.1 h with rfl | h
    · exact List.mem_cons_self ..
    · exact List.mem_cons_of_mem _ (ddf_mem (List.mem_filter.1 h).1)
theorem filter_all {a : Mac} {L : List Ln} (h : ∀ y ∈ L, y.m ≠ a) : L.filter (notM a) = L := List.filter_eq_self.2 fun y hy => (notM_iff _ _).2 (h y hy)
theorem take_filter {a : Mac} : ∀ (L : List Ln) (n : Nat), Nod L → ((L.take (n + 1)).filter (notM a)).take n = (L.filter (notM a)).take n
  | [], _, _ => by simp
  | y :: L, n, h => by
    obtain ⟨h1, h2⟩ := List.pairwise_cons.1 h
    by_cases hy : y.m = a
    · have hn : notM a y = false := by simp [notM, isM, hy]
      have hL : ∀ z ∈ L, z.m ≠ a := fun z hz e => h1 z hz (hy.trans e.symm)
      rw [List.take_succ_cons, List.filter_cons_of_neg (by simp [hn]), List.filter_cons_of_neg (by simp [hn]), filter_all hL, filter_all fun z hz => hL z (List.mem_of_mem_take hz), List.take_take, Nat.min_self]
    · have hn : notM a y = true := (notM_iff _ _).2 hy
      rw [List.take_succ_cons, List.filter_cons_of_pos hn, List.filter_cons_of_pos hn]
      cases n with
      | zero => rfl
      | succ m => rw [List.take_succ_cons, List.take_succ_cons, take_filter L m h2]
theorem see_rev (K : List Ln) (a : Mac) (p : Nat) : (seeP K a p).reverse = ⟨a, p⟩ :: (K.reverse.filter (notM a)).take 15 := by
  unfold seeP
  rw [List.reverse_append, List.filter_reverse, List.take_reverse]
  show _ = ⟨a, p⟩ :: ((keepK K a).drop ((keepK K a).length - 15)).reverse
  rw [show (keepK K a).length + 1 - 16 = (keepK K a).length - 15 from by omega]
  rfl
theorem kf_rev : ∀ R : List Ln, (KF R.reverse).reverse = (ddf R).take 16
  | [] => rfl
  | x :: R => by
    rw [List.reverse_cons, kf_snoc, see_rev, kf_rev R, take_filter _ _ (ddf_nod R)]
    rfl
theorem kf_take (S : List Ln) : (KF S).reverse = (ddf S.reverse).take 16 := by
  have := kf_rev S.reverse
  rwa [List.reverse_reverse] at this
theorem kf_nod (S : List Ln) : Nod (KF S) := by
  have h : Nod ((ddf S.reverse).take 16) := List.Pairwise.sublist (List.take_sublist _ _) (ddf_nod _)
  rw [← kf_take] at h
  unfold Nod at *
  rw [List.pairwise_reverse] at h
  exact h.imp fun h e => h e.symm
theorem kf_mem {S : List Ln} {y : Ln} : y ∈ KF S ↔ y ∈ (ddf S.reverse).take 16 := by rw [← kf_take, List.mem_reverse]
theorem nod_uniq {L : List Ln} (h : Nod L) {x y : Ln} (hx : x ∈ L) (hy : y ∈ L) (e : x.m = y.m) : x = y := by
  unfold Nod at h
  induction L with
  | nil => cases hx
  | cons z L ih =>
    obtain ⟨h1, h2⟩ := List.pairwise_cons.1 h
    rcases List.mem_cons.1 hx with hx | hx <;> rcases List.mem_cons.1 hy with hy | hy
    · rw [hx, hy]
    · exact absurd (by rw [← hx]; exact e) (h1 y hy)
    · exact absurd (by rw [← hy]; exact e.symm) (h1 x hx)
    · exact ih h2 hx hy
theorem find_mem {K : List Ln} (h : Nod K) {l : Ln} (hl : l ∈ K) : findX K l.m = (l.p, true) := by
  unfold findX
  cases hq : K.find? (isM l.m) with
  | none =>
    have := List.find?_eq_none.1 hq l hl
    simp [isM] at this
  | some l' =>
    have h1 := List.mem_of_find?_eq_some hq
    have h2 := List.find?_some hq
    have e : l'.m = l.m := by simpa [isM] using h2
    rw [nod_uniq h h1 hl e]
theorem find_not {K : List Ln} {a : Mac} (h : ∀ l ∈ K, l.m ≠ a) : findX K a = (0, false) := by
  unfold findX
  rw [List.find?_eq_none.2 fun l hl => by simpa [isM] using h l hl]
/-- a card that is new stands behind those that were there -/
theorem ddf_new {x : Ln} {B : List Ln} : ∀ {A : List Ln}, (∀ y ∈ A, y.m ≠ x.m) → ∃ r, ddf (A ++ x :: B) = ddf A ++ x :: r
  | [], _ => ⟨_, rfl⟩
  | y :: A, h => by
    obtain ⟨r, hr⟩ := ddf_new (A := A) fun z hz => h z (List.mem_cons_of_mem _ hz)
    have hx : notM y.m x = true := (notM_iff _ _).2 fun e => h y (List.mem_cons_self ..) e.symm
    refine ⟨r.filter (notM y.m), ?_⟩
    show y :: (ddf (A ++ x :: B)).filter (notM y.m) = _
    rw [hr, List.filter_append, List.filter_cons_of_pos hx]
    rfl
theorem ddf_old {x : Ln} : ∀ {A : List Ln}, (∃ y ∈ A, y.m = x.m) → ddf (A ++ [x]) = ddf A
  | [], h => by
    obtain ⟨_, h, _⟩ := h
    cases h
  | y :: A, h => by
    show y :: (ddf (A ++ [x])).filter (notM y.m) = y :: (ddf A).filter (notM y.m)
    by_cases hA : ∃ z ∈ A, z.m = x.m
    · rw [ddf_old hA]
    · have hy : y.m = x.m := by
        obtain ⟨z, hz, e⟩ := h
        rcases List.mem_cons.1 hz with rfl | hz
        · exact e
        · exact absurd ⟨z, hz, e⟩ hA
      have hno : ∀ z ∈ A, z.m ≠ x.m := fun z hz e => hA ⟨z, hz, e⟩
      obtain ⟨r, hr⟩ := ddf_new (B := []) hno
      have hr0 : r = [] := by
        have hs : ddf (A ++ [x]) = ddf A ++ [x] := ddf_snoc hno
        rw [hs] at hr
        have := List.append_cancel_left hr
        injection this with _ this
        exact this.symm
      rw [hr, hr0, List.filter_append, List.filter_cons_of_neg (by simp [notM, isM, hy])]
      simp
where
  ddf_snoc {x : Ln} : ∀ {A : List Ln}, (∀ y ∈ A, y.m ≠ x.m) → ddf (A ++ [x]) = ddf A ++ [x]
    | [], _ => rfl
    | y :: A, h => by
      have hx : notM y.m x = true := (notM_iff _ _).2 fun e => h y (List.mem_cons_self ..) e.symm
      show y :: (ddf (A ++ [x])).filter (notM y.m) = _
      rw [ddf_snoc fun z hz => h z (List.mem_cons_of_mem _ hz), List.filter_append, List.filter_cons_of_pos hx]
      rfl
theorem ddf_snoc {x : Ln} {A : List Ln} (h : ∀ y ∈ A, y.m ≠ x.m) : ddf (A ++ [x]) = ddf A ++ [x] := ddf_old.ddf_snoc h
/-- where a card is that is new among those seen last -/
theorem find_new {S A B : List Ln} {x : Ln} (hS : S.reverse = A ++ x :: B) (hno : ∀ y ∈ A, y.m ≠ x.m) : findX (KF S) x.m = (if (ddf A).length < 16 then x.p else 0, decide ((ddf A).length < 16)) := by
  obtain ⟨r, hr⟩ := ddf_new (B := B) hno
  by_cases h : (ddf A).length < 16
  · rw [if_pos h, decide_eq_true h]
    refine find_mem (kf_nod S) (kf_mem.2 ?_)
    rw [hS, hr, List.take_append, List.mem_append]
    right
    rw [show 16 - (ddf A).length = (15 - (ddf A).length) + 1 from by omega, List.take_succ_cons]
    exact List.mem_cons_self ..
  · rw [if_neg h, decide_eq_false h]
    refine find_not fun l hl => ?_
    have h2 := kf_mem.1 hl
    rw [hS, hr, List.take_append_of_le_length (by omega)] at h2
    exact hno l (ddf_mem (List.mem_of_mem_take h2))
theorem kf_len (S : List Ln) : (KF S).length = min 16 (ddf S.reverse).length := by
  rw [← List.length_reverse, kf_take, List.length_take]
end Go.Proofs.Ytecbelnmdimnkaa
