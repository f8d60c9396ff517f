/-
  Layer 8 as plain data: an Echo's and a Datagram's bytes, and what is opened of any bytes. No program, no condition.
-/
import Derived.Test.YthkpkhhnlenioaaPk
namespace Go.Proofs.Ythkpkhhnlenioaa

structure Ec where
  reply : Bool
  id : Nat
  seq : Nat
  data : List UInt8
structure Dg where
  src : Nat
  dst : Nat
  data : List UInt8
def Ec.zero : Ec := ⟨false, 0, 0, []⟩
def Dg.zero : Dg := ⟨0, 0, []⟩
def Ec.ok (x : Ec) : Prop := x.id < 65536 ∧ x.seq < 65536
def Dg.ok (x : Dg) : Prop := x.src < 65536 ∧ x.dst < 65536
def ecKind (x : Ec) : List UInt8 := [if x.reply then 0 else 8, 0]
def ecTail (x : Ec) : List UInt8 := two x.id ++ two x.seq ++ x.data
def ecSum (x : Ec) : Nat := 65535 - sumL (ecKind x ++ two 0 ++ ecTail x)
def Ec.bytes (x : Ec) : List UInt8 := ecKind x ++ two (ecSum x) ++ ecTail x
def ecBuild (x : Ec) : List UInt8 × Int := if 992 < x.data.length then ([], 4) else (x.bytes, 0)
def pseudoL (s d : List UInt8) (n : Nat) : List UInt8 := s ++ d ++ [0, 17] ++ two n
def Dg.front (x : Dg) : List UInt8 := two x.src ++ two x.dst ++ two (8 + x.data.length)
def dgBare (s d : List UInt8) (x : Dg) : List UInt8 := pseudoL s d (8 + x.data.length) ++ (x.front ++ two 0 ++ x.data)
def dgSum (s d : List UInt8) (x : Dg) : Nat := if 65535 - sumL (dgBare s d x) = 0 then 65535 else 65535 - sumL (dgBare s d x)
def Dg.bytes (s d : List UInt8) (x : Dg) : List UInt8 := x.front ++ two (dgSum s d x) ++ x.data
def dgBuild (s d : List UInt8) (x : Dg) : List UInt8 × Int := if 992 < x.data.length then ([], 4) else (x.bytes s d, 0)
/-- the Echo, the Datagram of no more than 1000 bytes -/
def ecOpen (l : List UInt8) : Ec × Int :=
  if l.length < 8 then (Ec.zero, 6) else if sumL l ≠ 65535 then (Ec.zero, 8)
  else if (l.getD 0 0 ≠ 0 ∧ l.getD 0 0 ≠ 8) ∨ l.getD 1 0 ≠ 0 then (Ec.zero, 7)
  else (⟨decide (l.getD 0 0 = 0), numAt l 4, numAt l 6, l.drop 8⟩, 0)
def dgOpen (s d l : List UInt8) : Dg × Int :=
  if l.length < 8 then (Dg.zero, 6) else if numAt l 4 < 8 then (Dg.zero, 7)
  else if l.length < numAt l 4 then (Dg.zero, 6)
  else if numAt l 6 ≠ 0 ∧ sumL (pseudoL s d (numAt l 4) ++ l.take (numAt l 4)) ≠ 65535 then (Dg.zero, 8)
  else (⟨numAt l 0, numAt l 2, (l.take (numAt l 4)).drop 8⟩, 0)

theorem numAt_le (l : List UInt8) (k : Nat) : numAt l k ≤ 65535 := by have := numAt_lt l k; omega
theorem ec_length (x : Ec) : x.bytes.length = 8 + x.data.length := by
  simp [Ec.bytes, ecKind, ecTail, two_length]
  omega
theorem ec_tot (x : Ec) (n : Nat) (h : n < 65536) : tot true (ecKind x ++ two n ++ ecTail x) = tot true (ecKind x) + n + tot true (ecTail x) := by
  rw [List.append_assoc, tot_even _ _ (par_len _ (by simp [ecKind])), tot_even _ _ (par_len _ (by rw [two_length])), tot_two _ h]
  omega
theorem ec_bare (x : Ec) : sumL (ecKind x ++ ecTail x) = sumL (ecKind x ++ two 0 ++ ecTail x) := by
  unfold sumL
  rw [ec_tot x 0 (by omega), tot_even _ _ (par_len _ (by simp [ecKind]))]
  simp
theorem ec_right (x : Ec) : sumL x.bytes = 65535 := by
  have hs := sumL_le (ecKind x ++ two 0 ++ ecTail x)
  show fold16 (tot true (ecKind x ++ two (ecSum x) ++ ecTail x)) = 65535
  have e1 := ec_tot x 0 (by omega)
  rw [ec_tot x _ (by unfold ecSum; omega)]
  rw [show tot true (ecKind x) + ecSum x + tot true (ecTail x) = tot true (ecKind x ++ two 0 ++ ecTail x) + (65535 - fold16 (tot true (ecKind x ++ two 0 ++ ecTail x))) from by
    rw [show ecSum x = 65535 - fold16 (tot true (ecKind x ++ two 0 ++ ecTail x)) from rfl, e1]
    omega]
  exact sum_fixed _
theorem ec_open_bytes {x : Ec} (h : x.ok) : ecOpen x.bytes = (x, 0) := by
  have hl := ec_length x
  have e4 : numAt x.bytes 4 = x.id := num_two _ h.1
  have e6 : numAt x.bytes 6 = x.seq := num_two _ h.2
  have e0 : x.bytes.getD 0 0 = if x.reply then 0 else 8 := rfl
  have e1 : x.bytes.getD 1 0 = 0 := rfl
  unfold ecOpen
  rw [if_neg (by omega), if_neg (by rw [ec_right]; simp), if_neg (by rw [e0, e1]; cases x.reply <;> simp), e4, e6, e0, show x.bytes.drop 8 = x.data from rfl]
  obtain ⟨r, i, s, d⟩ := x
  cases r <;> rfl
theorem ec_open_some {l : List UInt8} {x : Ec} (h : ecOpen l = (x, 0)) : x.ok ∧ 8 + x.data.length ≤ l.length := by
  unfold ecOpen at h
  split at h
  · cases h
  · split at h
    · cases h
    · split at h
      · cases h
      · injection h with h _
        subst h
        refine ⟨⟨numAt_lt l 4, numAt_lt l 6⟩, ?_⟩
        show 8 + (l.drop 8).length ≤ _
        rw [List.length_drop]
        omega
theorem ec_open_none {l : List UInt8} (h : (ecOpen l).2 ≠ 0) : (ecOpen l).1 = Ec.zero := by
  unfold ecOpen at h ⊢
  repeat (first | (split <;> rename_i hc <;> first | rfl | rw [if_neg hc] at h) | exact absurd rfl h)

theorem front_len (x : Dg) : x.front.length = 6 := rfl
theorem dg_length (s d : List UInt8) (x : Dg) : (x.bytes s d).length = 8 + x.data.length := by
  simp [Dg.bytes, front_len, two_length]
  omega
theorem pseudo_len {s d : List UInt8} (hs : s.length = 4) (hd : d.length = 4) (n : Nat) : (pseudoL s d n).length = 12 := by
  simp [pseudoL, hs, hd, two_length]
theorem dg_tot {s d : List UInt8} (hs : s.length = 4) (hd : d.length = 4) (m : Nat) (x : Dg) (n : Nat) (h : n < 65536) : tot true (pseudoL s d m ++ (x.front ++ two n ++ x.data)) = tot true (pseudoL s d m) + tot true x.front + n + tot true x.data := by
  rw [tot_even _ _ (par_len _ (by rw [pseudo_len hs hd])), List.append_assoc, tot_even _ _ (par_len _ (by rw [front_len])), tot_even _ _ (par_len _ (by rw [two_length])), tot_two _ h]
  omega
theorem dgSum_pos (s d : List UInt8) (x : Dg) : dgSum s d x ≠ 0 ∧ dgSum s d x < 65536 := by
  unfold dgSum
  split <;> omega
theorem dg_right {s d : List UInt8} (hs : s.length = 4) (hd : d.length = 4) (x : Dg) : sumL (pseudoL s d (8 + x.data.length) ++ x.bytes s d) = 65535 := by
  have e1 := dg_tot hs hd (8 + x.data.length) x 0 (by omega)
  show fold16 (tot true (pseudoL s d (8 + x.data.length) ++ (x.front ++ two (dgSum s d x) ++ x.data))) = 65535
  rw [dg_tot hs hd _ x _ (dgSum_pos s d x).2]
  obtain ⟨T, hT⟩ : ∃ T, tot true (dgBare s d x) = T := ⟨_, rfl⟩
  have e2 : tot true (pseudoL s d (8 + x.data.length)) + tot true x.front + dgSum s d x + tot true x.data = T + dgSum s d x := by
    rw [← hT]
    unfold dgBare
    rw [e1]
    omega
  rw [e2]
  have e3 : sumL (dgBare s d x) = fold16 T := by rw [← hT]; rfl
  unfold dgSum
  rw [e3]
  have hle := fold16_le T
  split
  · have h0 : fold16 T = 65535 := by omega
    obtain ⟨h1, h2⟩ := (fold_right T).1 h0
    exact (fold_right _).2 ⟨by omega, by omega⟩
  · exact sum_fixed T
section
variable {s d : List UInt8} {x : Dg}
theorem dg_n4 (hl : x.data.length ≤ 60000) (m : List UInt8) : numAt (x.bytes s d ++ m) 4 = 8 + x.data.length := num_two _ (by omega)
theorem dg_n6 (m : List UInt8) : numAt (x.bytes s d ++ m) 6 = dgSum s d x := num_two _ (dgSum_pos s d x).2
theorem dg_take (m : List UInt8) : (x.bytes s d ++ m).take (8 + x.data.length) = x.bytes s d := by
  rw [← dg_length s d x]
  exact List.take_left
theorem dg_open_bytes (h : x.ok) (hs : s.length = 4) (hd : d.length = 4) (hl : x.data.length ≤ 60000) (m : List UInt8) : dgOpen s d (x.bytes s d ++ m) = (x, 0) := by
  have hn := dg_length s d x
  have e0 : numAt (x.bytes s d ++ m) 0 = x.src := num_two _ h.1
  have e2 : numAt (x.bytes s d ++ m) 2 = x.dst := num_two _ h.2
  unfold dgOpen
  rw [dg_n4 hl, if_neg (by rw [List.length_append]; omega), if_neg (by omega), if_neg (by rw [List.length_append]; omega), dg_take, if_neg (by rw [dg_right hs hd]; simp), e0, e2]
  rfl
theorem dg_open_some {l : List UInt8} (h : dgOpen s d l = (x, 0)) : x.ok ∧ 8 + x.data.length ≤ l.length := by
  unfold dgOpen at h
  split at h
  · cases h
  · split at h
    · cases h
    · split at h
      · cases h
      · split at h
        · cases h
        · injection h with h _
          subst h
          refine ⟨⟨numAt_lt l 0, numAt_lt l 2⟩, ?_⟩
          show 8 + ((l.take (numAt l 4)).drop 8).length ≤ _
          rw [List.length_drop, List.length_take]
          omega
theorem dg_cut (hl : x.data.length ≤ 60000) (k : Nat) (hk : k < 8 + x.data.length) : dgOpen s d ((x.bytes s d).take k) = (Dg.zero, 6) := by
  have hn := dg_length s d x
  unfold dgOpen
  by_cases h8 : k < 8
  · rw [if_pos (by rw [List.length_take]; omega)]
  · have e4 : numAt ((x.bytes s d).take k) 4 = 8 + x.data.length := by
      rw [← dg_n4 (s := s) (d := d) hl [], List.append_nil]
      unfold numAt
      simp only [List.getD_eq_getElem?_getD, List.getElem?_take]
      rw [if_pos (by omega), if_pos (by omega)]
    rw [if_neg (by rw [List.length_take]; omega), e4, if_neg (by omega), if_pos (by rw [List.length_take]; omega)]
theorem numAt_set (l : List UInt8) (i k : Nat) (y : UInt8) (h : i ≠ k ∧ i ≠ k + 1) : numAt (l.set i y) k = numAt l k := by
  unfold numAt
  simp only [List.getD_eq_getElem?_getD]
  rw [List.getElem?_set_ne h.1, List.getElem?_set_ne h.2]
theorem dg_turned (hs : s.length = 4) (hd : d.length = 4) (hl : x.data.length ≤ 60000) (i : Nat) (y : UInt8) (hi : i < 8 + x.data.length) (h4 : i ≠ 4) (h5 : i ≠ 5) (hy : y ≠ (x.bytes s d).getD i 0) :
    (dgOpen s d ((x.bytes s d).set i y)).2 = 0 → numAt ((x.bytes s d).set i y) 6 = 0 := by
  have hn := dg_length s d x
  intro h0
  by_cases h6 : numAt ((x.bytes s d).set i y) 6 = 0
  · exact h6
  · exfalso
    have e4 : numAt ((x.bytes s d).set i y) 4 = 8 + x.data.length := by
      rw [numAt_set _ _ _ _ ⟨h4, h5⟩]
      have := dg_n4 (s := s) (d := d) hl []
      rwa [List.append_nil] at this
    have ht : ((x.bytes s d).set i y).take (8 + x.data.length) = (x.bytes s d).set i y := List.take_of_length_le (by rw [List.length_set]; omega)
    have hne : sumL (pseudoL s d (8 + x.data.length) ++ (x.bytes s d).set i y) ≠ 65535 := by
      have e : pseudoL s d (8 + x.data.length) ++ (x.bytes s d).set i y = (pseudoL s d (8 + x.data.length) ++ x.bytes s d).set (12 + i) y := by
        rw [List.set_append_right _ _ (by rw [pseudo_len hs hd]; omega), pseudo_len hs hd, Nat.add_sub_cancel_left]
      rw [e]
      refine right_turned _ _ _ (by rw [List.length_append, pseudo_len hs hd]; omega) ?_ (dg_right hs hd x)
      simp only [List.getD_eq_getElem?_getD]
      rw [List.getElem?_append_right (by rw [pseudo_len hs hd]; omega), pseudo_len hs hd, Nat.add_sub_cancel_left]
      simpa only [List.getD_eq_getElem?_getD] using hy
    unfold dgOpen at h0
    rw [e4, ht, if_neg (by rw [List.length_set]; omega), if_neg (by omega), if_neg (by rw [List.length_set]; omega), if_pos ⟨h6, hne⟩] at h0
    cases h0
theorem dg_other (hs : s.length = 4) (hd : d.length = 4) (hl : x.data.length ≤ 60000) (k : Nat) (y : UInt8) (hk : k < 4) (hy : y ≠ s.getD k 0) : dgOpen (s.set k y) d (x.bytes s d) = (Dg.zero, 8) := by
  have hn := dg_length s d x
  have e4 := dg_n4 (s := s) (d := d) hl []
  have e6 := dg_n6 (s := s) (d := d) (x := x) []
  have ht := dg_take (s := s) (d := d) (x := x) []
  rw [List.append_nil] at e4 e6 ht
  have hne : sumL (pseudoL (s.set k y) d (8 + x.data.length) ++ x.bytes s d) ≠ 65535 := by
    have e : pseudoL (s.set k y) d (8 + x.data.length) ++ x.bytes s d = (pseudoL s d (8 + x.data.length) ++ x.bytes s d).set k y := by
      rw [List.set_append_left _ _ (by rw [pseudo_len hs hd]; omega)]
      unfold pseudoL
      rw [List.set_append_left _ _ (by simp [hs, hd]; omega), List.set_append_left _ _ (by simp [hs, hd]; omega), List.set_append_left _ _ (by omega)]
    rw [e]
    refine right_turned _ _ _ (by rw [List.length_append, pseudo_len hs hd]; omega) ?_ (dg_right hs hd x)
    simp only [List.getD_eq_getElem?_getD]
    rw [List.getElem?_append_left (by rw [pseudo_len hs hd]; omega)]
    unfold pseudoL
    rw [List.getElem?_append_left (by simp [hs, hd]; omega), List.getElem?_append_left (by simp [hs, hd]; omega), List.getElem?_append_left (by omega)]
    simpa only [List.getD_eq_getElem?_getD] using hy
  unfold dgOpen
  rw [e4, e6, ht, if_neg (by omega), if_neg (by omega), if_neg (by omega), if_pos ⟨(dgSum_pos s d x).1, hne⟩]
end
end Go.Proofs.Ythkpkhhnlenioaa
