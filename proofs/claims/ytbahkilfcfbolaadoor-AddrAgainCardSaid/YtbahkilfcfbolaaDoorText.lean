/-
  Numbers in decimal digits, texts parted by a mark: the plain mathematics of layer 4's texts. No program, no condition.
-/
import Derived.Lib.ItoaNum
import Derived.Lib.Split
import Derived.Lib.Join
namespace Go.Proofs.YtbahkilfcfbolaaDoor

/-- a number in digits -/
abbrev dec (n : Nat) : List UInt8 := Lib.decDigits n
def isD (c : UInt8) : Bool := decide (48 ≤ c.toNat ∧ c.toNat ≤ 57)
/-- the number of digits, behind m -/
def vf (m : Nat) (l : List UInt8) : Nat := l.foldl (fun n c => 10 * n + (c.toNat - 48)) m

theorem dec_small {n : Nat} (h : n < 10) : dec n = [UInt8.ofNat (48 + n)] := Lib.decDigits_one h
theorem dec_big {n : Nat} (h : ¬ n < 10) : dec n = dec (n / 10) ++ [UInt8.ofNat (48 + n % 10)] := by
  show Lib.decDigits n = _
  rw [Lib.decDigits, dif_neg h]
theorem ofNat_toNat {k : Nat} (h : k < 256) : (UInt8.ofNat k).toNat = k := by
  rw [UInt8.toNat_ofNat']
  exact Nat.mod_eq_of_lt h
theorem dec_all (n : Nat) : ∀ c ∈ dec n, isD c = true := by
  induction n using Nat.strongRecOn with
  | _ n ih =>
    by_cases h : n < 10
    · rw [dec_small h]
      intro c hc
      simp at hc
      subst hc
      unfold isD
      rw [UInt8.toNat_add]
      have : (UInt8.ofNat n).toNat = n := ofNat_toNat (by omega)
      simp [this]
      omega
    · rw [dec_big h]
      intro c hc
      rcases List.mem_append.1 hc with hc | hc
      · exact ih (n / 10) (by omega) c hc
      · simp only [List.mem_singleton] at hc
        subst hc
        unfold isD
        rw [ofNat_toNat (by omega)]
        exact decide_eq_true (by omega)
theorem dec_ne (n : Nat) : dec n ≠ [] := by
  by_cases h : n < 10
  · rw [dec_small h]; simp
  · rw [dec_big h]; simp
theorem dec_len3 (n : Nat) (h : n < 256) : (dec n).length ≤ 3 := by
  by_cases h1 : n < 10
  · rw [dec_small h1]; simp
  · rw [dec_big h1]
    by_cases h2 : n / 10 < 10
    · rw [dec_small h2]; simp
    · rw [dec_big h2, dec_small (by omega)]; simp
theorem dec_len5 (n : Nat) (h : n < 65536) : (dec n).length ≤ 5 := by
  by_cases h1 : n < 10
  · rw [dec_small h1]; simp
  · rw [dec_big h1]
    have h3 : n / 10 < 6554 := by omega
    by_cases h2 : n / 10 < 256
    · have := dec_len3 _ h2
      simp
      omega
    · rw [dec_big (by omega)]
      have h4 : n / 10 / 10 < 656 := by omega
      by_cases h5 : n / 10 / 10 < 256
      · have := dec_len3 _ h5
        simp
        omega
      · rw [dec_big (by omega)]
        have := dec_len3 (n / 10 / 10 / 10) (by omega)
        have h7 : (dec (n / 10 / 10 / 10)).length ≤ 2 := by
          by_cases h6 : n / 10 / 10 / 10 < 10
          · rw [dec_small h6]; simp
          · rw [dec_big h6, dec_small (by omega)]; simp
        simp
        omega

theorem vf_snoc (m : Nat) (l : List UInt8) (c : UInt8) : vf m (l ++ [c]) = 10 * vf m l + (c.toNat - 48) := by simp [vf]
theorem vf_cons (m : Nat) (l : List UInt8) (c : UInt8) : vf m (c :: l) = vf (10 * m + (c.toNat - 48)) l := by simp [vf]
theorem vf_le (l : List UInt8) : ∀ m, m ≤ vf m l := by
  induction l with
  | nil => intro m; exact Nat.le_refl _
  | cons c r ih =>
    intro m
    rw [vf_cons]
    have := ih (10 * m + (c.toNat - 48))
    omega
theorem vf_dec (n : Nat) : vf 0 (dec n) = n := by
  induction n using Nat.strongRecOn with
  | _ n ih =>
    by_cases h : n < 10
    · rw [dec_small h]
      show 10 * 0 + ((UInt8.ofNat (48 + n)).toNat - 48) = n
      rw [ofNat_toNat (by omega)]
      omega
    · rw [dec_big h, vf_snoc, ih (n / 10) (by omega), ofNat_toNat (by omega)]
      omega
theorem dec_inj {m n : Nat} (h : dec m = dec n) : m = n := (vf_dec m).symm.trans ((congrArg (vf 0) h).trans (vf_dec n))

/-- no needless 0 -/
def canon (l : List UInt8) : Bool := decide (l ≠ []) && !(decide (1 < l.length) && l.head? == some 48) && l.all isD
theorem dec_head (n : Nat) (h : 1 ≤ n) : (dec n).head? ≠ some 48 := by
  induction n using Nat.strongRecOn with
  | _ n ih =>
    by_cases h1 : n < 10
    · rw [dec_small h1]
      intro e
      simp only [List.head?_cons, Option.some.injEq] at e
      have := congrArg UInt8.toNat e
      rw [ofNat_toNat (by omega)] at this
      have h2 : (48 : UInt8).toNat = 48 := rfl
      omega
    · rw [dec_big h1, List.head?_append]
      have := ih (n / 10) (by omega) (by omega)
      cases hd : (dec (n / 10)).head? with
      | none =>
        rw [List.head?_eq_none_iff] at hd
        exact absurd hd (dec_ne _)
      | some x =>
        rw [hd] at this
        simpa using this
theorem canon_dec (n : Nat) : canon (dec n) = true := by
  unfold canon
  rw [Bool.and_eq_true, Bool.and_eq_true]
  refine ⟨⟨decide_eq_true (dec_ne n), ?_⟩, List.all_eq_true.2 (dec_all n)⟩
  by_cases h : n < 10
  · rw [dec_small h]; rfl
  · have := dec_head n (by omega)
    simp [this]
theorem vf_zero_head {l : List UInt8} (h : l.head? ≠ some 48) (ha : ∀ c ∈ l, isD c = true) (hl : l ≠ []) : 1 ≤ vf 0 l := by
  cases l with
  | nil => exact absurd rfl hl
  | cons c r =>
    have hc := of_decide_eq_true (ha c (by simp))
    have h1 : c.toNat ≠ 48 := fun e => h (by
      simp only [List.head?_cons, Option.some.injEq]
      exact UInt8.toNat_inj.1 e)
    rw [vf_cons]
    have := vf_le r (10 * 0 + (c.toNat - 48))
    omega
theorem dec_vf_rev (r : List UInt8) : canon r.reverse = true → dec (vf 0 r.reverse) = r.reverse := by
  induction r with
  | nil => intro h; simp [canon] at h
  | cons c r ih =>
    intro h
    rw [List.reverse_cons] at h ⊢
    have h0 := h
    unfold canon at h
    rw [Bool.and_eq_true, Bool.and_eq_true] at h
    obtain ⟨⟨_, h2⟩, h3⟩ := h
    rw [List.all_eq_true] at h3
    have hc := of_decide_eq_true (h3 c (by simp))
    by_cases hr : r = []
    · subst hr
      show dec (10 * 0 + (c.toNat - 48)) = [c]
      rw [dec_small (by omega), show 48 + (10 * 0 + (c.toNat - 48)) = c.toNat from by omega, UInt8.ofNat_toNat]
    · have hne : r.reverse ≠ [] := by simpa using hr
      have hl : 1 ≤ r.length := by
        cases r with
        | nil => exact absurd rfl hr
        | cons _ _ => simp
      have hhd : r.reverse.head? ≠ some 48 := by
        intro e
        rw [List.head?_append, e] at h2
        simp at h2
        cases r with
        | nil => exact hr rfl
        | cons y r => simp at h2
      have hv := vf_zero_head hhd (fun x hx => h3 x (by simp at hx ⊢; exact .inl hx)) hne
      have hcan : canon r.reverse = true := by
        unfold canon
        rw [Bool.and_eq_true, Bool.and_eq_true]
        refine ⟨⟨decide_eq_true hne, ?_⟩, List.all_eq_true.2 fun x hx => h3 x (by simp at hx ⊢; exact .inl hx)⟩
        simp only [Bool.not_eq_true', Bool.and_eq_false_iff]
        exact .inr (by simpa using hhd)
      rw [vf_snoc, dec_big (by omega), show (10 * vf 0 r.reverse + (c.toNat - 48)) / 10 = vf 0 r.reverse from by omega, ih hcan,
        show 48 + (10 * vf 0 r.reverse + (c.toNat - 48)) % 10 = c.toNat from by omega, UInt8.ofNat_toNat]
theorem dec_vf (l : List UInt8) (h : canon l = true) : dec (vf 0 l) = l := by
  have := dec_vf_rev l.reverse
  rw [List.reverse_reverse] at this
  exact this h

/-- the number of a text, and whether it is one, not above most -/
def numS (l : List UInt8) (most : Nat) : Nat × Bool := if canon l = true ∧ vf 0 l ≤ most then (vf 0 l, true) else (0, false)
theorem numS_dec (n most : Nat) (h : n ≤ most) : numS (dec n) most = (n, true) := by
  unfold numS
  rw [vf_dec, if_pos ⟨canon_dec n, h⟩]
theorem numS_cases (l : List UInt8) (most : Nat) : (∃ n, n ≤ most ∧ l = dec n ∧ numS l most = (n, true)) ∨ (numS l most = (0, false) ∧ ∀ n, n ≤ most → l ≠ dec n) := by
  by_cases h : canon l = true ∧ vf 0 l ≤ most
  · exact .inl ⟨vf 0 l, h.2, (dec_vf l h.1).symm, by unfold numS; rw [if_pos h]⟩
  · refine .inr ⟨by unfold numS; rw [if_neg h], fun n hn e => h ?_⟩
    subst e
    rw [vf_dec]
    exact ⟨canon_dec n, hn⟩

/-! ### a mark between parts -/
theorem index_hit (c : UInt8) : ∀ (a b : List UInt8), c ∉ a → Lib.index (a ++ c :: b) [c] = a.length
  | [], b, _ => by simp [Lib.index]
  | x :: a, b, h => by
    have hx : c ≠ x := fun e => h (by simp [e])
    have ih := index_hit c a b fun e => h (by simp [e])
    rw [List.cons_append, Lib.index, ih]
    rw [if_neg (by simp [hx]), if_neg (by simp)]
    rfl
theorem index_miss (c : UInt8) : ∀ (a : List UInt8), c ∉ a → Lib.index a [c] = -1
  | [], _ => by simp [Lib.index]
  | x :: a, h => by
    have hx : c ≠ x := fun e => h (by simp [e])
    have ih := index_miss c a fun e => h (by simp [e])
    rw [Lib.index, ih]
    rw [if_neg (by simp [hx]), if_pos (by simp)]
/-- a text has the mark or not -/
theorem mark_cases (c : UInt8) (l : List UInt8) : c ∉ l ∨ ∃ a b, l = a ++ c :: b ∧ c ∉ a := by
  induction l with
  | nil => exact .inl (by simp)
  | cons x r ih =>
    by_cases hx : x = c
    · subst hx
      exact .inr ⟨[], r, rfl, by simp⟩
    · rcases ih with h | ⟨a, b, rfl, h⟩
      · exact .inl (by simp [h]; exact fun e => hx e.symm)
      · exact .inr ⟨x :: a, b, rfl, by simp [h]; exact fun e => hx e.symm⟩
theorem mark_split {c : UInt8} : ∀ {a a' b b' : List UInt8}, c ∉ a → c ∉ a' → a ++ c :: b = a' ++ c :: b' → a = a' ∧ b = b'
  | [], [], b, b', _, _, h => by simpa using h
  | [], x :: a', b, b', _, h2, h => by
    simp at h
    exact absurd (by simp [h.1]) h2
  | x :: a, [], b, b', h1, _, h => by
    simp at h
    exact absurd (by simp [h.1]) h1
  | x :: a, y :: a', b, b', h1, h2, h => by
    simp only [List.cons_append, List.cons.injEq] at h
    obtain ⟨rfl, h⟩ := h
    have := mark_split (a := a) (a' := a') (fun e => h1 (by simp [e])) (fun e => h2 (by simp [e])) h
    exact ⟨by rw [this.1], this.2⟩

theorem splitK_hit (c : UInt8) (k : Nat) (a b : List UInt8) (h : c ∉ a) : Lib.splitK [c] 0 (k + 1) (a ++ c :: b) = a :: Lib.splitK [c] 0 k b := by
  rw [Lib.splitK, index_hit c a b h, if_neg (by simp)]
  simp
theorem splitK_miss (c : UInt8) (k : Nat) (a : List UInt8) (h : c ∉ a) : Lib.splitK [c] 0 k a = [a] := by
  cases k with
  | zero => rfl
  | succ k => rw [Lib.splitK, index_miss c a h, if_pos (by simp)]
theorem join_two (x y : List UInt8) (r : List (List UInt8)) (sep : List UInt8) : Lib.join (x :: y :: r) sep = x ++ (sep ++ Lib.join (y :: r) sep) := by
  rw [Lib.join_cons, Lib.join_cons]
  simp [Lib.joinTail]
theorem splitK_ne (c : UInt8) (k : Nat) (s : List UInt8) : Lib.splitK [c] 0 k s ≠ [] := by
  rcases mark_cases c s with h | ⟨a, b, rfl, h⟩
  · rw [splitK_miss c k s h]; simp
  · cases k with
    | zero => simp [Lib.splitK]
    | succ k => rw [splitK_hit c k a b h]; simp
/-- what is parted and joined is the same -/
theorem join_splitK (c : UInt8) : ∀ (k : Nat) (s : List UInt8), Lib.join (Lib.splitK [c] 0 k s) [c] = s
  | 0, s => Lib.join_one s [c]
  | k + 1, s => by
    rcases mark_cases c s with h | ⟨a, b, rfl, h⟩
    · rw [splitK_miss c _ s h, Lib.join_one]
    · rw [splitK_hit c k a b h]
      have ih := join_splitK c k b
      cases hs : Lib.splitK [c] 0 k b with
      | nil => exact absurd hs (splitK_ne c k b)
      | cons y r =>
        rw [hs] at ih
        rw [join_two, ih]
        rfl
/-- what is joined and parted is the same -/
theorem splitK_join (c : UInt8) : ∀ (k : Nat) (x : List UInt8) (r : List (List UInt8)), (∀ y ∈ x :: r, c ∉ y) → r.length ≤ k → Lib.splitK [c] 0 k (Lib.join (x :: r) [c]) = x :: r
  | k, x, [], h, _ => by rw [Lib.join_one, splitK_miss c k x (h x (by simp))]
  | 0, x, y :: r, _, hk => by simp at hk
  | k + 1, x, y :: r, h, hk => by
    rw [join_two]
    show Lib.splitK [c] 0 (k + 1) (x ++ c :: Lib.join (y :: r) [c]) = _
    rw [splitK_hit c k x _ (h x (by simp)), splitK_join c k y r (fun z hz => h z (List.mem_cons_of_mem _ hz)) (by simpa using hk)]
theorem join_len (c : UInt8) : ∀ (x : List UInt8) (r : List (List UInt8)), r.length ≤ (Lib.join (x :: r) [c]).length
  | x, [] => by simp
  | x, y :: r => by
    have := join_len c y r
    rw [join_two]
    simp
    omega
theorem join_le (c : UInt8) (m : Nat) : ∀ (xs : List (List UInt8)), (∀ x ∈ xs, x.length ≤ m) → (Lib.join xs [c]).length ≤ xs.length * (m + 1) := by
  intro xs
  induction xs with
  | nil => intro _; simp [Lib.join_nil]
  | cons x r ih =>
    intro hs
    have h1 := hs x (by simp)
    have e : (r.length + 1) * (m + 1) = r.length * (m + 1) + (m + 1) := Nat.succ_mul _ _
    cases r with
    | nil => rw [Lib.join_one]; simp; omega
    | cons y r =>
      have h2 := ih fun z hz => hs z (List.mem_cons_of_mem _ hz)
      rw [join_two]
      simp only [List.length_append, List.length_cons, List.length_nil] at h2 e ⊢
      omega
/-- the parts of a text, one more than there may be -/
def parts (c : UInt8) (n : Nat) (l : List UInt8) : List (List UInt8) := Lib.splitK [c] 0 (min (n + 1) (l.length + 1) - 1) l
theorem parts_join (c : UInt8) (n : Nat) (l : List UInt8) : Lib.join (parts c n l) [c] = l := join_splitK c _ l
theorem parts_of (c : UInt8) (n : Nat) (x : List UInt8) (r : List (List UInt8)) (h : ∀ y ∈ x :: r, c ∉ y) (hn : r.length ≤ n) : parts c n (Lib.join (x :: r) [c]) = x :: r := by
  unfold parts
  refine splitK_join c _ x r h ?_
  have := join_len c x r
  omega
end Go.Proofs.YtbahkilfcfbolaaDoor
