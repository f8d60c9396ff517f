/-
  Layer 9 as plain data: a segment's bytes, its options, flags as they are written, and what is opened of any bytes. No program, no condition.
-/
import Derived.Test.YtjgdmkmfnkaoaaaPk
namespace Go.Proofs.Ytjgdmkmfnkaoaaa

structure Sg where
  src : Nat
  dst : Nat
  seq : Nat
  ack : Nat
  flags : UInt8
  wnd : Nat
  mss : Nat
  data : List UInt8
def Sg.zero : Sg := ⟨0, 0, 0, 0, 0, 0, 0, []⟩
def Sg.ok (x : Sg) : Prop := x.src < 65536 ∧ x.dst < 65536 ∧ x.seq < 4294967296 ∧ x.ack < 4294967296 ∧ x.wnd < 65536 ∧ x.mss < 65536
def four (n : Nat) : List UInt8 := two (n / 65536) ++ two (n % 65536)
def optL (m : Nat) : List UInt8 := if m = 0 then [] else [2, 4] ++ two m
def wordsL (m : Nat) : UInt8 := if m = 0 then 80 else 96
def Sg.front (x : Sg) : List UInt8 := two x.src ++ two x.dst ++ four x.seq ++ four x.ack ++ [wordsL x.mss, x.flags] ++ two x.wnd
def Sg.back (x : Sg) : List UInt8 := two 0 ++ optL x.mss ++ x.data
def Sg.size (x : Sg) : Nat := 20 + (optL x.mss).length + x.data.length
def pseudoT (s d : List UInt8) (n : Nat) : List UInt8 := s ++ d ++ [0, 6] ++ two n
def sgBare (s d : List UInt8) (x : Sg) : List UInt8 := pseudoT s d x.size ++ (x.front ++ two 0 ++ x.back)
def sgSum (s d : List UInt8) (x : Sg) : Nat := 65535 - sumL (sgBare s d x)
def Sg.bytes (s d : List UInt8) (x : Sg) : List UInt8 := x.front ++ two (sgSum s d x) ++ x.back
/-- may a segment be built? -/
def Sg.may (x : Sg) : Prop := x.flags.toNat ≤ 31 ∧ (x.mss ≠ 0 → x.flags.toNat / 2 % 2 = 1)
instance (x : Sg) : Decidable x.may := by unfold Sg.may; infer_instance
def sgBuild (s d : List UInt8) (x : Sg) : List UInt8 × Int := if 156 < x.data.length then ([], 4) else if x.may then (x.bytes s d, 0) else ([], 1)
def num4 (l : List UInt8) (k : Nat) : Nat := numAt l k * 65536 + numAt l (k + 2)
/-- what options tell, m so far; none: they are none -/
def opts (m : Nat) (l : List UInt8) : Option Nat :=
  if 0 < l.length then
    if l.getD 0 0 = 0 then some m
    else if l.getD 0 0 = 1 then opts m (l.drop 1)
    else if l.length < 2 ∨ (l.getD 1 0).toNat < 2 ∨ l.length < (l.getD 1 0).toNat ∨ (l.getD 0 0 = 2 ∧ (l.getD 1 0).toNat ≠ 4) then none
    else opts (if l.getD 0 0 = 2 then numAt l 2 else m) (l.drop (l.getD 1 0).toNat)
  else some m
termination_by l.length
decreasing_by all_goals (rw [List.length_drop]; omega)
def headN (l : List UInt8) : Nat := 4 * ((l.getD 12 0).toNat / 16)
def sgOf (l : List UInt8) (m : Nat) : Sg :=
  ⟨numAt l 0, numAt l 2, num4 l 4, num4 l 8, UInt8.ofNat ((l.getD 13 0).toNat % 32), numAt l 14, if (l.getD 13 0).toNat / 2 % 2 = 1 then m else 0, l.drop (headN l)⟩
def sgOpen (s d l : List UInt8) : Sg × Int :=
  if l.length < 20 then (Sg.zero, 6) else if headN l < 20 then (Sg.zero, 7) else if l.length < headN l then (Sg.zero, 6)
  else if 1000 < l.length then (Sg.zero, 4) else if sumL (pseudoT s d l.length ++ l) ≠ 65535 then (Sg.zero, 8)
  else match opts 0 ((l.take (headN l)).drop 20) with
    | none => (Sg.zero, 7)
    | some m => (sgOf l m, 0)

theorem four_length (n : Nat) : (four n).length = 4 := rfl
theorem numAt_le (l : List UInt8) (k : Nat) : numAt l k ≤ 65535 := by have := numAt_lt l k; omega
theorem num4_lt (l : List UInt8) (k : Nat) : num4 l k < 4294967296 := by
  unfold num4
  have := numAt_le l k
  have := numAt_le l (k + 2)
  omega
theorem front_len (x : Sg) : x.front.length = 16 := rfl
theorem optL_len (m : Nat) : (optL m).length = if m = 0 then 0 else 4 := by unfold optL; split <;> rfl
theorem back_len (x : Sg) : x.back.length = 2 + (optL x.mss).length + x.data.length := by
  simp [Sg.back, two_length]
  omega
theorem sg_length (s d : List UInt8) (x : Sg) : (x.bytes s d).length = x.size := by
  simp [Sg.bytes, front_len, two_length, back_len, Sg.size]
  omega
theorem size_le (x : Sg) : 20 + x.data.length ≤ x.size ∧ x.size ≤ 24 + x.data.length := by
  unfold Sg.size
  rw [optL_len]
  split <;> omega
theorem pseudoT_len {s d : List UInt8} (hs : s.length = 4) (hd : d.length = 4) (n : Nat) : (pseudoT s d n).length = 12 := by
  simp [pseudoT, hs, hd, two_length]
theorem sg_tot {s d : List UInt8} (hs : s.length = 4) (hd : d.length = 4) (m : Nat) (x : Sg) (n : Nat) (h : n < 65536) : tot true (pseudoT s d m ++ (x.front ++ two n ++ x.back)) = tot true (pseudoT s d m) + tot true x.front + n + tot true x.back := by
  rw [tot_even _ _ (par_len _ (by rw [pseudoT_len hs hd])), List.append_assoc, tot_even _ _ (par_len _ (by rw [front_len])), tot_even _ _ (par_len _ (by rw [two_length])), tot_two _ h]
  omega
theorem sgSum_lt (s d : List UInt8) (x : Sg) : sgSum s d x < 65536 := by unfold sgSum; omega
theorem sg_right {s d : List UInt8} (hs : s.length = 4) (hd : d.length = 4) (x : Sg) : sumL (pseudoT s d x.size ++ x.bytes s d) = 65535 := by
  have e1 := sg_tot hs hd x.size x 0 (by omega)
  show fold16 (tot true (pseudoT s d x.size ++ (x.front ++ two (sgSum s d x) ++ x.back))) = 65535
  rw [sg_tot hs hd _ x _ (sgSum_lt s d x)]
  obtain ⟨T, hT⟩ : ∃ T, tot true (sgBare s d x) = T := ⟨_, rfl⟩
  have e2 : tot true (pseudoT s d x.size) + tot true x.front + sgSum s d x + tot true x.back = T + sgSum s d x := by
    rw [← hT]
    unfold sgBare
    rw [e1]
    omega
  rw [e2]
  have e3 : sumL (sgBare s d x) = fold16 T := by rw [← hT]; rfl
  unfold sgSum
  rw [e3]
  exact sum_fixed T
theorem opts_nil (m : Nat) : opts m [] = some m := by
  rw [opts]
  rfl
theorem opts_one (m k : Nat) (h : k < 65536) : opts m ([2, 4] ++ two k) = some k := by
  rw [opts]
  have e0 : ([2, 4] ++ two k).getD 0 0 = 2 := rfl
  have e1 : ([2, 4] ++ two k).getD 1 0 = 4 := rfl
  have e2 : numAt ([2, 4] ++ two k) 2 = k := num_two _ h
  have e3 : ([2, 4] ++ two k).length = 4 := rfl
  have e4 : ([2, 4] ++ two k).drop 4 = [] := rfl
  rw [e0, e1, e2, e3, if_pos (by omega), if_neg (by decide), if_neg (by decide), if_neg (by decide), if_pos rfl]
  show opts k (([2, 4] ++ two k).drop 4) = _
  rw [e4, opts_nil]
/-- options that tell a piece's size have four bytes at least -/
theorem opts_size : ∀ (n : Nat) (l : List UInt8) (m k : Nat), l.length ≤ n → opts m l = some k → k = m ∨ 4 ≤ l.length := by
  intro n
  induction n with
  | zero =>
    intro l m k hn h
    rw [opts, if_neg (by omega)] at h
    injection h with h
    exact .inl h.symm
  | succ n ih =>
    intro l m k hn h
    rw [opts] at h
    split at h
    · split at h
      · injection h with h
        exact .inl h.symm
      · split at h
        · rcases ih _ _ _ (by rw [List.length_drop]; omega) h with h | h
          · exact .inl h
          · rw [List.length_drop] at h
            omega
        · split at h
          · cases h
          · rename_i hc
            by_cases h2 : l.getD 0 0 = 2
            · right
              have : (l.getD 1 0).toNat = 4 := by
                apply Decidable.byContradiction
                intro h4
                exact hc (.inr (.inr (.inr ⟨h2, h4⟩)))
              omega
            · rw [if_neg h2] at h
              rcases ih _ _ _ (by rw [List.length_drop]; omega) h with h | h
              · exact .inl h
              · rw [List.length_drop] at h
                omega
    · injection h with h
      exact .inl h.symm
theorem opts_lt : ∀ (n : Nat) (l : List UInt8) (m k : Nat), l.length ≤ n → m < 65536 → opts m l = some k → k < 65536 := by
  intro n
  induction n with
  | zero =>
    intro l m k hn hm h
    rw [opts, if_neg (by omega)] at h
    injection h with h
    omega
  | succ n ih =>
    intro l m k hn hm h
    rw [opts] at h
    split at h
    · split at h
      · injection h with h
        omega
      · split at h
        · exact ih _ _ _ (by rw [List.length_drop]; omega) hm h
        · split at h
          · cases h
          · refine ih _ _ _ (by rw [List.length_drop]; omega) ?_ h
            split
            · exact numAt_lt l 2
            · exact hm
    · injection h with h
      omega

theorem small_flags {n : Nat} (h : n ≤ 31) : (UInt8.ofNat n).toNat = n := by rw [u8_of]; omega
section
variable {s d : List UInt8} {x : Sg}
theorem sg_b12 : (x.bytes s d).getD 12 0 = wordsL x.mss := rfl
theorem sg_b13 : (x.bytes s d).getD 13 0 = x.flags := rfl
theorem sg_head : headN (x.bytes s d) = 20 + (optL x.mss).length := by
  unfold headN
  rw [sg_b12, optL_len]
  unfold wordsL
  split <;> rfl
theorem sg_opts : ((x.bytes s d).take (headN (x.bytes s d))).drop 20 = optL x.mss := by
  rw [sg_head]
  have e : x.bytes s d = (x.front ++ two (sgSum s d x) ++ two 0) ++ (optL x.mss ++ x.data) := by
    simp [Sg.bytes, Sg.back]
  have hl : (x.front ++ two (sgSum s d x) ++ two 0).length = 20 := by simp [front_len, two_length]
  rw [e, ← List.append_assoc, List.take_left' (by rw [List.length_append, hl]), List.drop_left' hl]
theorem sg_data : (x.bytes s d).drop (headN (x.bytes s d)) = x.data := by
  rw [sg_head]
  have e : x.bytes s d = ((x.front ++ two (sgSum s d x) ++ two 0) ++ optL x.mss) ++ x.data := by
    simp [Sg.bytes, Sg.back]
  have hl : (x.front ++ two (sgSum s d x) ++ two 0).length = 20 := by simp [front_len, two_length]
  rw [e, List.drop_left' (by rw [List.length_append, hl])]
theorem opts_optL (h : x.mss < 65536) : opts 0 (optL x.mss) = some x.mss := by
  unfold optL
  split
  · rename_i h0
    rw [opts_nil, h0]
  · exact opts_one 0 _ h
theorem num4_four {l : List UInt8} {k n : Nat} (h1 : numAt l k = n / 65536) (h2 : numAt l (k + 2) = n % 65536) : num4 l k = n := by
  unfold num4
  omega
theorem sg_of (h : x.ok) (hm : x.may) : sgOf (x.bytes s d) x.mss = x := by
  obtain ⟨h1, h2, h3, h4, h5, h6⟩ := h
  unfold sgOf
  have e0 : numAt (x.bytes s d) 0 = x.src := num_two _ h1
  have e2 : numAt (x.bytes s d) 2 = x.dst := num_two _ h2
  have e4 : num4 (x.bytes s d) 4 = x.seq := num4_four (num_two _ (by omega)) (num_two _ (by omega))
  have e8 : num4 (x.bytes s d) 8 = x.ack := num4_four (num_two _ (by omega)) (num_two _ (by omega))
  have e14 : numAt (x.bytes s d) 14 = x.wnd := num_two _ h5
  rw [e0, e2, e4, e8, e14, sg_b13, sg_data]
  have ef : UInt8.ofNat (x.flags.toNat % 32) = x.flags := by
    rw [Nat.mod_eq_of_lt (by have := hm.1; omega)]
    exact UInt8.ofNat_toNat
  have em : (if x.flags.toNat / 2 % 2 = 1 then x.mss else 0) = x.mss := by
    split
    · rfl
    · rename_i hn
      exact (Decidable.byContradiction fun h0 => hn (hm.2 fun e => h0 e.symm))
  rw [ef, em]
theorem sg_open_bytes (h : x.ok) (hm : x.may) (hs : s.length = 4) (hd : d.length = 4) (hl : x.size ≤ 1000) : sgOpen s d (x.bytes s d) = (x, 0) := by
  have hn := sg_length s d x
  have hz := size_le x
  have hh : headN (x.bytes s d) = 20 + (optL x.mss).length := sg_head
  have hsz : x.size = 20 + (optL x.mss).length + x.data.length := rfl
  unfold sgOpen
  rw [hn, if_neg (by omega), if_neg (by omega), if_neg (by omega), if_neg (by omega), if_neg (by rw [sg_right hs hd]; simp), sg_opts, opts_optL h.2.2.2.2.2, ]
  show (sgOf (x.bytes s d) x.mss, (0 : Int)) = _
  rw [sg_of h hm]
theorem sg_open_none {l : List UInt8} (h : (sgOpen s d l).2 ≠ 0) : (sgOpen s d l).1 = Sg.zero := by
  unfold sgOpen at h ⊢
  split
  · rfl
  rename_i h1
  rw [if_neg h1] at h
  split
  · rfl
  rename_i h2
  rw [if_neg h2] at h
  split
  · rfl
  rename_i h3
  rw [if_neg h3] at h
  split
  · rfl
  rename_i h4
  rw [if_neg h4] at h
  split
  · rfl
  rename_i h5
  rw [if_neg h5] at h
  split
  · rfl
  · rename_i m hm
    rw [hm] at h
    exact absurd rfl h
theorem sg_open_some {l : List UInt8} (h : sgOpen s d l = (x, 0)) : x.ok ∧ x.may ∧ x.size ≤ l.length ∧ l.length ≤ 1000 := by
  unfold sgOpen at h
  split at h
  · cases h
  split at h
  · cases h
  split at h
  · cases h
  split at h
  · cases h
  split at h
  · cases h
  split at h
  · cases h
  rename_i _ _ _ _ _ _ m hm
  injection h with h _
  subst h
  have hm16 := opts_lt _ _ _ _ (Nat.le_refl _) (by omega) hm
  have h4 := opts_size _ _ _ _ (Nat.le_refl _) hm
  rw [List.length_drop, List.length_take] at h4
  have hf : (UInt8.ofNat ((l.getD 13 0).toNat % 32)).toNat = (l.getD 13 0).toNat % 32 := small_flags (by omega)
  refine ⟨⟨numAt_lt l 0, numAt_lt l 2, num4_lt l 4, num4_lt l 8, numAt_lt l 14, ?_⟩, ⟨?_, ?_⟩, ?_, by omega⟩
  · show (if (l.getD 13 0).toNat / 2 % 2 = 1 then m else 0) < _
    split <;> omega
  · show (UInt8.ofNat _).toNat ≤ _
    rw [hf]
    omega
  · show (if (l.getD 13 0).toNat / 2 % 2 = 1 then m else 0) ≠ 0 → (UInt8.ofNat ((l.getD 13 0).toNat % 32)).toNat / 2 % 2 = 1
    rw [hf, show (l.getD 13 0).toNat % 32 / 2 % 2 = (l.getD 13 0).toNat / 2 % 2 from by omega]
    intro h
    exact Decidable.byContradiction fun hn => h (if_neg hn)
  · show 20 + (optL (if (l.getD 13 0).toNat / 2 % 2 = 1 then m else 0)).length + (l.drop (headN l)).length ≤ _
    rw [optL_len, List.length_drop]
    by_cases hc : (if (l.getD 13 0).toNat / 2 % 2 = 1 then m else 0) = 0
    · rw [if_pos hc]
      omega
    · rw [if_neg hc]
      have : m ≠ 0 := fun h0 => hc (by rw [h0]; split <;> rfl)
      omega
theorem numAt_set (l : List UInt8) (i k : Nat) (y : UInt8) (h : i ≠ k ∧ i ≠ k + 1) : numAt (l.set i y) k = numAt l k := by
  unfold numAt
  simp only [List.getD_eq_getElem?_getD]
  rw [List.getElem?_set_ne h.1, List.getElem?_set_ne h.2]
theorem sg_turned (hs : s.length = 4) (hd : d.length = 4) (i : Nat) (y : UInt8) (hi : i < x.size) (hy : y ≠ (x.bytes s d).getD i 0) : (sgOpen s d ((x.bytes s d).set i y)).2 ≠ 0 := by
  have hn := sg_length s d x
  have hne : sumL (pseudoT s d x.size ++ (x.bytes s d).set i y) ≠ 65535 := by
    have e : pseudoT s d x.size ++ (x.bytes s d).set i y = (pseudoT s d x.size ++ x.bytes s d).set (12 + i) y := by
      rw [List.set_append_right _ _ (by rw [pseudoT_len hs hd]; omega), pseudoT_len hs hd, Nat.add_sub_cancel_left]
    rw [e]
    refine right_turned _ _ _ (by rw [List.length_append, pseudoT_len hs hd]; omega) ?_ (sg_right hs hd x)
    simp only [List.getD_eq_getElem?_getD]
    rw [List.getElem?_append_right (by rw [pseudoT_len hs hd]; omega), pseudoT_len hs hd, Nat.add_sub_cancel_left]
    simpa only [List.getD_eq_getElem?_getD] using hy
  unfold sgOpen
  rw [List.length_set, hn, if_pos hne]
  split
  · decide
  split
  · decide
  split
  · decide
  split <;> decide
theorem sg_other (hs : s.length = 4) (hd : d.length = 4) (hl : x.size ≤ 1000) (k : Nat) (y : UInt8) (hk : k < 4) (hy : y ≠ s.getD k 0) : sgOpen (s.set k y) d (x.bytes s d) = (Sg.zero, 8) := by
  have hn := sg_length s d x
  have hz := size_le x
  have hh : headN (x.bytes s d) = 20 + (optL x.mss).length := sg_head
  have hsz : x.size = 20 + (optL x.mss).length + x.data.length := rfl
  have hne : sumL (pseudoT (s.set k y) d x.size ++ x.bytes s d) ≠ 65535 := by
    have e : pseudoT (s.set k y) d x.size ++ x.bytes s d = (pseudoT s d x.size ++ x.bytes s d).set k y := by
      rw [List.set_append_left _ _ (by rw [pseudoT_len hs hd]; omega)]
      unfold pseudoT
      rw [List.set_append_left _ _ (by simp [hs, hd]; omega), List.set_append_left _ _ (by simp [hs, hd]; omega), List.set_append_left _ _ (by omega)]
    rw [e]
    refine right_turned _ _ _ (by rw [List.length_append, pseudoT_len hs hd]; omega) ?_ (sg_right hs hd x)
    simp only [List.getD_eq_getElem?_getD]
    rw [List.getElem?_append_left (by rw [pseudoT_len hs hd]; omega)]
    unfold pseudoT
    rw [List.getElem?_append_left (by simp [hs, hd]; omega), List.getElem?_append_left (by simp [hs, hd]; omega), List.getElem?_append_left (by omega)]
    simpa only [List.getD_eq_getElem?_getD] using hy
  unfold sgOpen
  rw [hn, if_neg (by omega), if_neg (by omega), if_neg (by omega), if_neg (by omega), if_pos hne]
end
/-- are two segments one? -/
def sgEq (x y : Sg) : Bool := decide (x.src = y.src ∧ x.dst = y.dst ∧ x.seq = y.seq ∧ x.ack = y.ack ∧ x.flags = y.flags ∧ x.wnd = y.wnd ∧ x.mss = y.mss ∧ x.data = y.data)
theorem sgEq_self (x : Sg) : sgEq x x = true := decide_eq_true ⟨rfl, rfl, rfl, rfl, rfl, rfl, rfl, rfl⟩
def sgLen (x : Sg) : Nat := x.data.length + x.flags.toNat / 2 % 2 + x.flags.toNat % 2

/-- flags as they are written -/
def flagL (f : Nat) : List UInt8 :=
  (if f % 2 = 1 then [70] else []) ++ (if f / 2 % 2 = 1 then [83] else []) ++ (if f / 4 % 2 = 1 then [82] else []) ++ (if f / 8 % 2 = 1 then [80] else []) ++ (if f / 16 % 2 = 1 then [65] else [])
def flagsT (f : Nat) : List UInt8 := if flagL f = [] then [45] else flagL f
def findFlags (s : List UInt8) : Option Nat := (List.range 32).find? fun f => flagsT f = s
def readFlags (s : List UInt8) : Nat × Int := match findFlags s with
  | some f => (f, 0)
  | none => (0, 7)
theorem flagsT_mod (f : Nat) : flagsT (f % 32) = flagsT f := by
  have e1 : f % 32 % 2 = f % 2 := by omega
  have e2 : f % 32 / 2 % 2 = f / 2 % 2 := by omega
  have e3 : f % 32 / 4 % 2 = f / 4 % 2 := by omega
  have e4 : f % 32 / 8 % 2 = f / 8 % 2 := by omega
  have e5 : f % 32 / 16 % 2 = f / 16 % 2 := by omega
  unfold flagsT flagL
  rw [e1, e2, e3, e4, e5]
theorem flagsT_inj : ∀ f : Fin 32, ∀ g : Fin 32, flagsT f.val = flagsT g.val → f = g := by decide +kernel
theorem read_flags (f : Nat) (h : f < 32) : readFlags (flagsT f) = (f, 0) := by
  unfold readFlags
  have : findFlags (flagsT f) = some f := by
    unfold findFlags
    cases hg : (List.range 32).find? (fun g => flagsT g = flagsT f) with
    | none =>
      rw [List.find?_eq_none] at hg
      exact absurd (rfl : flagsT f = flagsT f) (by simpa using hg f (by simpa using h))
    | some g =>
      have h1 := List.find?_some hg
      have h2 := List.mem_of_find?_eq_some hg
      have h3 := flagsT_inj ⟨g, by simpa using h2⟩ ⟨f, h⟩ (by simpa using h1)
      rw [show g = f from congrArg Fin.val h3]
  rw [this]
theorem read_none (s : List UInt8) (h : ∀ f, f < 32 → flagsT f ≠ s) : readFlags s = (0, 7) := by
  unfold readFlags
  have : findFlags s = none := by
    unfold findFlags
    rw [List.find?_eq_none]
    intro f hf
    simpa using h f (by simpa using hf)
  rw [this]
end Go.Proofs.Ytjgdmkmfnkaoaaa
