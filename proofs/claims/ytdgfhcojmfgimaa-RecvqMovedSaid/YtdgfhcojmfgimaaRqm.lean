/-
  What may be stays so: a new state, one that a piece came to, one of which some was read. Plain mathematics. No condition.
-/
import Derived.Test.YtdgfhcojmfgimaaRfa
import Derived.Test.YtdgfhcojmfgimaaRqp
namespace Go.Proofs.Ytdgfhcojmfgimaa
open Go.RowKit

theorem new_ok {n : Int} (h : U32 n) : OkX (newX n) where
  next := h
  data := by show 0 ≤ 256; omega
  got := List.length_replicate
  bytes := fun c hc => by have := List.eq_of_mem_replicate hc; omega
  win := fun i c hc h0 => by
    have := List.eq_of_mem_replicate (List.mem_of_getElem? hc)
    omega
  fin := .inl rfl
  ahead := fun h => by
    have h : (0 : Int) ≤ -1 := h
    omega
  runs := by
    show runsN (List.replicate 256 (-1)) ≤ 8
    have : ∀ k, runsN (List.replicate k (-1)) = 0 := fun k => by
      induction k with
      | zero => rfl
      | succ k ih =>
        cases k with
        | zero => rfl
        | succ k =>
          rw [List.replicate_succ, List.replicate_succ]
          rw [List.replicate_succ] at ih
          simp only [runsN]
          rw [ih]
          rfl
    rw [this]
    omega
  front := fun c hc => by
    have := List.eq_of_mem_replicate (List.mem_of_getElem? hc)
    omega
  done := by
    constructor
    · intro h
      cases h
    · intro h
      have h : (-1 : Int) = 0 := h
      omega
theorem read_ok {x : Rx} (h : OkX x) (n : Int) : OkX (readX x n) where
  next := h.next
  data := by
    show (x.data.drop _).length ≤ 256
    rw [List.length_drop]
    have := h.data
    omega
  got := h.got
  bytes := h.bytes
  win := fun i c hc h0 => by
    have h1 := h.win i c hc h0
    unfold winX at h1 ⊢
    show (i : Int) < 256 - ((x.data.drop _).length : Int)
    rw [List.length_drop]
    omega
  fin := by
    rcases h.fin with h1 | ⟨h1, h2⟩
    · exact .inl h1
    · refine .inr ⟨h1, ?_⟩
      unfold winX at h2 ⊢
      show x.fin ≤ 256 - ((x.data.drop _).length : Int)
      rw [List.length_drop]
      omega
  ahead := h.ahead
  runs := h.runs
  front := h.front
  done := h.done
theorem lay_get {x : Rx} {d : Int} {D : List UInt8} {f : Int} {i : Nat} : (layX x d D f)[i]? = (x.got[i]?).map (layI x d D f i) := by
  unfold layX
  rw [List.getElem?_mapIdx]
theorem lay_len (x : Rx) (d : Int) (D : List UInt8) (f : Int) : (layX x d D f).length = x.got.length := by simp [layX]
/-- what lies there was there, or was laid -/
theorem layI_cases (x : Rx) (d : Int) (D : List UInt8) (f : Int) (i : Nat) (c : Int) : layI x d D f i c = c ∨ (c < 0 ∧ d ≤ i ∧ (i : Int) < d + D.length ∧ (i : Int) < winX x ∧ (f < 0 ∨ (i : Int) < f)) := by
  unfold layI
  split
  · rename_i h
    exact .inr h
  · exact .inl rfl
theorem layI_in {x : Rx} {d : Int} {D : List UInt8} {f : Int} {i : Nat} {c : Int} (h : d ≤ i ∧ (i : Int) < d + D.length ∧ (i : Int) < winX x ∧ (f < 0 ∨ (i : Int) < f)) : 0 ≤ layI x d D f i c := by
  by_cases hc : c < 0
  · unfold layI
    rw [if_pos ⟨hc, h⟩]
    split
    · exact Int.natCast_nonneg _
    · rename_i hn
      rw [List.getElem?_eq_none_iff] at hn
      omega
  · rcases layI_cases x d D f i c with h1 | h1 <;> omega
theorem front_at {l : List Int} {i : Nat} {c : Int} (hi : i < (frontL l).length) (hc : l[i]? = some c) : 0 ≤ c := by
  unfold frontL at hi
  rw [List.length_map] at hi
  have h1 := List.takeWhile_append_dropWhile (p := fun z => decide ((0 : Int) ≤ z)) (l := l)
  have h2 : (l.takeWhile (fun z => decide ((0 : Int) ≤ z)))[i]? = some c := by
    rw [← h1, List.getElem?_append_left hi] at hc
    exact hc
  have h3 : ∀ (m : List Int) x, x ∈ m.takeWhile (fun z => decide ((0 : Int) ≤ z)) → 0 ≤ x := by
    intro m
    induction m with
    | nil => intro x hx; cases hx
    | cons y m ih =>
      intro x hx
      rw [List.takeWhile_cons] at hx
      split at hx
      · rename_i hy
        rcases List.mem_cons.1 hx with rfl | hx
        · simpa using hy
        · exact ih x hx
      · cases hx
  exact h3 l c (List.mem_of_getElem? h2)
theorem front_stops {l : List Int} {c : Int} (hc : l[(frontL l).length]? = some c) : c < 0 := by
  unfold frontL at hc
  rw [List.length_map] at hc
  have h1 := List.takeWhile_append_dropWhile (p := fun z => decide ((0 : Int) ≤ z)) (l := l)
  rw [← h1, List.getElem?_append_right (by simp)] at hc
  simp at hc
  have h3 : ∀ (m : List Int) x r, m.dropWhile (fun z => decide ((0 : Int) ≤ z)) = x :: r → x < 0 := by
    intro m
    induction m with
    | nil => intro x r hx; cases hx
    | cons y m ih =>
      intro x r hx
      rw [List.dropWhile_cons] at hx
      split at hx
      · exact ih x r hx
      · rename_i hy
        injection hx with hx _
        subst hx
        simp at hy
        omega
  cases hd : l.dropWhile (fun z => decide ((0 : Int) ≤ z)) with
  | nil => rw [hd] at hc; cases hc
  | cons y r =>
    rw [hd] at hc
    simp at hc
    subst hc
    exact h3 l y r hd
theorem front_ge {l : List Int} {k : Nat} (hk : k ≤ l.length) (h : ∀ (i : Nat) c, i < k → l[i]? = some c → 0 ≤ c) : k ≤ (frontL l).length := by
  rcases Nat.lt_or_ge (frontL l).length k with hlt | hge
  · have h1 := List.getElem?_eq_getElem (l := l) (i := (frontL l).length) (by omega)
    have h2 := front_stops h1
    have h3 := h _ _ hlt h1
    omega
  · exact hge
theorem runs_drop : ∀ (l : List Int) (k : Nat), runsN (l.drop k) ≤ runsN l
  | [], k => by simp
  | [a], 0 => Nat.le_refl _
  | [a], k + 1 => by simp [runsN]
  | a :: b :: l, 0 => Nat.le_refl _
  | a :: b :: l, k + 1 => by
    have := runs_drop (b :: l) k
    simp only [List.drop_succ_cons, runsN]
    omega
theorem runs_pad : ∀ (l : List Int) (k : Nat), runsN (l ++ List.replicate k (-1)) = runsN l
  | [], k => by
    induction k with
    | zero => rfl
    | succ k ih =>
      cases k with
      | zero => rfl
      | succ k =>
        simp only [List.nil_append] at ih ⊢
        rw [List.replicate_succ, List.replicate_succ]
        rw [List.replicate_succ] at ih
        simp only [runsN]
        rw [ih]
        rfl
  | [a], k => by
    have := runs_pad [] k
    simp only [List.nil_append] at this
    cases k with
    | zero => rfl
    | succ k =>
      rw [List.replicate_succ] at this ⊢
      simp only [List.cons_append, List.nil_append, runsN] at this ⊢
      rw [this]
      rfl
  | a :: b :: l, k => by
    have := runs_pad (b :: l) k
    simp only [List.cons_append, runsN] at this ⊢
    rw [this]
theorem beyond_false {l : List Int} {e : Int} (h : beyondX l e = false) {i : Nat} {c : Int} (hi : e ≤ i) (hc : l[i]? = some c) : c < 0 := by
  unfold beyondX at h
  rw [List.any_eq_false] at h
  have hm : c ∈ l.drop e.toNat := by
    have : (l.drop e.toNat)[i - e.toNat]? = some c := by
      rw [List.getElem?_drop, show e.toNat + (i - e.toNat) = i from by omega]
      exact hc
    exact List.mem_of_getElem? this
  have := h c hm
  simp at this
  omega
/-- where the end is then -/
theorem fin_ok {x : Rx} (h : OkX x) (d : Int) (n : Nat) (e : Bool) : (finX x d n e = -1 ∨ 0 ≤ finX x d n e ∧ finX x d n e ≤ winX x) ∧ (0 ≤ finX x d n e → ∀ (i : Nat) c, x.got[i]? = some c → 0 ≤ c → (i : Int) < finX x d n e) := by
  unfold finX
  split
  · rename_i hc
    obtain ⟨_, _, h1, h2, h3⟩ := hc
    refine ⟨.inr ⟨h1, h2⟩, fun _ i c hi h0 => ?_⟩
    by_cases hlt : (i : Int) < d + n
    · exact hlt
    · have := beyond_false h3 (i := i) (by omega) hi
      omega
  · exact ⟨h.fin, h.ahead⟩
theorem take_ok {x : Rx} (h : OkX x) {d : Int} {D : List UInt8} {f : Int} (hd : x.done = false) (hf : f = -1 ∨ 0 ≤ f ∧ f ≤ winX x) (ha : 0 ≤ f → ∀ (i : Nat) c, x.got[i]? = some c → 0 ≤ c → (i : Int) < f) : OkX (endX (takeX x (layX x d D f) f)) := by
  obtain ⟨g, hg⟩ : ∃ g, layX x d D f = g := ⟨_, rfl⟩
  have hlen : g.length = 256 := by rw [← hg, lay_len, h.got]
  have hget : ∀ (i : Nat) c, g[i]? = some c → ∃ c0, x.got[i]? = some c0 ∧ c = layI x d D f i c0 := fun i c hc => by
    rw [← hg, lay_get] at hc
    obtain ⟨c0, h1, h2⟩ := Option.map_eq_some_iff.1 hc
    exact ⟨c0, h1, h2.symm⟩
  have hby : ∀ c ∈ g, -1 ≤ c ∧ c ≤ 255 := by rw [← hg]; exact lay_bytes h.bytes
  have hwin : ∀ (i : Nat) c, g[i]? = some c → 0 ≤ c → (i : Int) < winX x := fun i c hc h0 => by
    obtain ⟨c0, h1, rfl⟩ := hget i c hc
    rcases layI_cases x d D f i c0 with h2 | h2
    · rw [h2] at h0
      exact h.win i c0 h1 h0
    · exact h2.2.2.2.1
  have hah : 0 ≤ f → ∀ (i : Nat) c, g[i]? = some c → 0 ≤ c → (i : Int) < f := fun hf0 i c hc h0 => by
    obtain ⟨c0, h1, rfl⟩ := hget i c hc
    rcases layI_cases x d D f i c0 with h2 | h2
    · rw [h2] at h0
      exact ha hf0 i c0 h1 h0
    · rcases h2.2.2.2.2 with h3 | h3
      · omega
      · exact h3
  have hend : ∀ y : Rx, U32 y.next → y.data.length ≤ 256 → y.got.length = 256 → (∀ c ∈ y.got, -1 ≤ c ∧ c ≤ 255) → (∀ (i : Nat) c, y.got[i]? = some c → 0 ≤ c → (i : Int) < winX y) → (y.fin = -1 ∨ 0 ≤ y.fin ∧ y.fin ≤ winX y) → (0 ≤ y.fin → ∀ (i : Nat) c, y.got[i]? = some c → 0 ≤ c → (i : Int) < y.fin) → runsN y.got ≤ 8 → (∀ c, y.got[0]? = some c → c < 0) → y.done = false → OkX (endX y) := fun y a1 a2 a3 a4 a5 a6 a7 a8 a9 a10 => by
    unfold endX
    split
    · rename_i h0
      exact ⟨⟨addS_ge _ _, addS_le _ _⟩, a2, a3, a4, a5, a6, a7, a8, a9, ⟨fun _ => h0, fun _ => rfl⟩⟩
    · rename_i h0
      exact ⟨a1, a2, a3, a4, a5, a6, a7, a8, a9, ⟨fun hh => (by rw [a10] at hh; cases hh), fun hh => absurd hh h0⟩⟩
  rw [hg]
  unfold takeX
  obtain ⟨k, hk⟩ : ∃ k, (frontL g).length = k := ⟨_, rfl⟩
  have hk256 : k ≤ 256 := by
    have := front_len g
    omega
  split
  · rename_i hc
    rw [hk]
    have hkw : (k : Int) ≤ winX x := by
      rcases Nat.eq_zero_or_pos k with h0 | h0
      · have := h.data
        unfold winX
        omega
      · have e := List.getElem?_eq_getElem (l := g) (i := k - 1) (by omega)
        have h1 := front_at (l := g) (i := k - 1) (by omega) e
        have h2 := hwin _ _ e h1
        omega
    have hkf : 0 ≤ f → (k : Int) ≤ f := fun hf0 => by
      rcases Nat.eq_zero_or_pos k with h0 | h0
      · omega
      · have e := List.getElem?_eq_getElem (l := g) (i := k - 1) (by omega)
        have h1 := front_at (l := g) (i := k - 1) (by omega) e
        have h2 := hah hf0 _ _ e h1
        omega
    have hshift : ∀ (i : Nat) c, (g.drop k ++ List.replicate k (-1))[i]? = some c → 0 ≤ c → g[k + i]? = some c := fun i c hc h0 => by
      by_cases hi : i < (g.drop k).length
      · rw [List.getElem?_append_left hi, List.getElem?_drop] at hc
        exact hc
      · rw [List.getElem?_append_right (by omega)] at hc
        have := List.eq_of_mem_replicate (List.mem_of_getElem? hc)
        omega
    refine hend _ ⟨addS_ge _ _, addS_le _ _⟩ ?_ ?_ ?_ ?_ ?_ ?_ ?_ ?_ hd
    · show (x.data ++ frontL g).length ≤ 256
      rw [List.length_append, hk]
      unfold winX at hkw
      omega
    · show (g.drop k ++ List.replicate k (-1)).length = 256
      rw [List.length_append, List.length_drop, List.length_replicate]
      omega
    · intro c hc
      rcases List.mem_append.1 hc with hc | hc
      · exact hby c (List.mem_of_mem_drop hc)
      · have := List.eq_of_mem_replicate hc
        omega
    · intro i c hc h0
      have := hwin _ _ (hshift i c hc h0) h0
      unfold winX at this ⊢
      show (i : Int) < 256 - ((x.data ++ frontL g).length : Int)
      rw [List.length_append, hk]
      omega
    · show (if 0 ≤ f then f - k else f) = -1 ∨ 0 ≤ (if 0 ≤ f then f - k else f) ∧ _
      rcases hf with hf | ⟨hf0, hf1⟩
      · left
        rw [if_neg (by omega)]
        exact hf
      · right
        rw [if_pos hf0]
        refine ⟨by have := hkf hf0; omega, ?_⟩
        unfold winX at hf1 ⊢
        show f - k ≤ 256 - ((x.data ++ frontL g).length : Int)
        rw [List.length_append, hk]
        omega
    · intro hf0 i c hc h0
      change 0 ≤ (if 0 ≤ f then f - k else f) at hf0
      show (i : Int) < (if 0 ≤ f then f - k else f)
      split at hf0
      · rename_i hff
        rw [if_pos hff]
        have := hah hff _ _ (hshift i c hc h0) h0
        omega
      · omega
    · show runsN (g.drop k ++ List.replicate k (-1)) ≤ 8
      rw [runs_pad]
      rcases hc with hc | hc
      · have hk0 : 0 < k := by rw [← hk]; exact List.length_pos_iff.2 hc
        have e0 := List.getElem?_eq_getElem (l := g) (i := 0) (by omega)
        have hg0 := front_at (l := g) (i := 0) (by omega) e0
        obtain ⟨c0, hx0, hl0⟩ := hget 0 _ e0
        have hxf := h.front c0 hx0
        rcases layI_cases x d D f 0 c0 with h2 | h2
        · rw [h2] at hl0
          omega
        · -- the piece begins at the front: behind what it fills all is as it was
          have hsame : g.drop k = x.got.drop k := by
            refine List.ext_getElem? fun j => ?_
            rw [List.getElem?_drop, List.getElem?_drop]
            by_cases hj : k + j < 256
            · have ej := List.getElem?_eq_getElem (l := x.got) (i := k + j) (by rw [h.got]; exact hj)
              rw [← hg, lay_get]
              obtain ⟨cj, hcj⟩ : ∃ cj, x.got[k + j]? = some cj := ⟨_, ej⟩
              rw [hcj]
              rcases layI_cases x d D f (k + j) cj with h3 | h3
              · simp [h3]
              · exfalso
                have hge : k + 1 ≤ (frontL g).length := by
                  refine front_ge (by omega) fun i c hi hc' => ?_
                  obtain ⟨c1, _, rfl⟩ := hget i c hc'
                  refine layI_in ⟨by omega, by omega, by omega, ?_⟩
                  rcases h3.2.2.2.2 with h4 | h4
                  · exact .inl h4
                  · exact .inr (by omega)
                omega
            · rw [List.getElem?_eq_none (by omega), List.getElem?_eq_none (by rw [h.got]; omega)]
          rw [hsame]
          exact Nat.le_trans (runs_drop _ _) h.runs
      · exact Nat.le_trans (runs_drop _ _) hc
    · intro c hc
      rcases Nat.lt_or_ge k 256 with hlt | hge
      · change (g.drop k ++ List.replicate k (-1))[0]? = some c at hc
        rw [List.getElem?_append_left (by rw [List.length_drop]; omega), List.getElem?_drop, Nat.add_zero, ← hk] at hc
        exact front_stops hc
      · change (g.drop k ++ List.replicate k (-1))[0]? = some c at hc
        rw [List.getElem?_append_right (by rw [List.length_drop]; omega)] at hc
        have := List.eq_of_mem_replicate (List.mem_of_getElem? hc)
        omega
  · exact hend _ h.next h.data h.got h.bytes h.win hf ha h.runs h.front hd
theorem accept_ok {x : Rx} (h : OkX x) (a : Int) (D : List UInt8) (e : Bool) : OkX (acceptX x a D e) := by
  unfold acceptX
  split
  · exact h
  · rename_i hd
    have hd : x.done = false := by simpa using hd
    obtain ⟨h1, h2⟩ := fin_ok h (diffS a x.next) D.length e
    exact take_ok h hd h1 h2
end Go.Proofs.Ytdgfhcojmfgimaa
