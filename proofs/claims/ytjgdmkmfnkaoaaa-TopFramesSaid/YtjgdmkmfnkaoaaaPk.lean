/-
  Packets as plain data, their bytes, and the packet of bytes: the plain mathematics of ip4. No program's walk, no condition.
-/
import Derived.Test.YtjgdmkmfnkaoaaaMem
import Derived.Test.YtjgdmkmfnkaoaaaSum
namespace Go.Proofs.Ytjgdmkmfnkaoaaa
open Go.RowKit

structure Pk where
  id : Nat
  more : Bool
  off : Int
  ttl : UInt8
  proto : UInt8
  src : List UInt8
  dst : List UInt8
  data : List UInt8

def Pk.zero : Pk := ⟨0, false, 0, 0, 0, [0, 0, 0, 0], [0, 0, 0, 0], []⟩
def Pk.ok (p : Pk) : Prop := p.id < 65536 ∧ p.src.length = 4 ∧ p.dst.length = 4
/-- a number in two bytes, the higher one first -/
def two (n : Nat) : List UInt8 := [UInt8.ofNat (n / 256), UInt8.ofNat n]
theorem two_length (n : Nat) : (two n).length = 2 := rfl
/-- the word that says where a packet's bytes stand -/
def placeN (p : Pk) : Nat := p.off.toNat / 8 + (if p.more then 8192 else 0)
/-- what stands ahead of the sum -/
def front (p : Pk) : List UInt8 := [69, 0] ++ two (20 + p.data.length) ++ two p.id ++ two (placeN p) ++ [p.ttl, p.proto]
/-- the head with 0 in the sum's place -/
def bare (p : Pk) : List UInt8 := front p ++ [0, 0] ++ p.src ++ p.dst
/-- a packet's bytes -/
def Pk.bytes (p : Pk) : List UInt8 := front p ++ two (65535 - sumL (bare p)) ++ p.src ++ p.dst ++ p.data
/-- can a head say where the bytes stand? -/
def offB (p : Pk) : Bool := decide (0 ≤ p.off ∧ p.off ≤ 65528 ∧ p.off % 8 = 0)
def placedB (p : Pk) : Bool := decide ((0 ≤ p.off ∧ p.off ≤ 65528 ∧ p.off % 8 = 0) ∧ (p.more = true → p.data.length % 8 = 0))
/-- what Build answers -/
def buildP (p : Pk) : List UInt8 × Int := if placedB p = true then (if 180 < p.data.length then ([], 4) else (p.bytes, 0)) else ([], 1)

/-- the number of two bytes at a place -/
def numAt (l : List UInt8) (k : Nat) : Nat := 256 * (l.getD k 0).toNat + (l.getD (k + 1) 0).toNat
def headOf (l : List UInt8) : Nat := 4 * ((l.getD 0 0).toNat % 16)
/-- the packet of bytes -/
def pkOf (l : List UInt8) : Pk :=
  ⟨numAt l 4, decide (numAt l 6 / 8192 % 2 = 1), ((numAt l 6 % 8192 * 8 : Nat) : Int), l.getD 8 0, l.getD 9 0, (l.drop 12).take 4, (l.drop 16).take 4, (l.take (numAt l 2)).drop (headOf l)⟩
/-- what Parse answers -/
def parseP (l : List UInt8) : Pk × Int :=
  if l.length < 20 then (Pk.zero, 6)
  else if (l.getD 0 0).toNat / 16 ≠ 4 ∨ headOf l < 20 ∨ numAt l 2 < headOf l then (Pk.zero, 7)
  else if l.length < numAt l 2 then (Pk.zero, 6)
  else if sumL (l.take (headOf l)) ≠ 65535 then (Pk.zero, 8)
  else (pkOf l, 0)
/-- are two packets one? -/
def pkEq (p q : Pk) : Bool := decide (p.id = q.id ∧ p.more = q.more ∧ p.off = q.off ∧ p.ttl = q.ttl ∧ p.proto = q.proto ∧ p.src = q.src ∧ p.dst = q.dst ∧ p.data = q.data)
theorem pkEq_iff (p q : Pk) : pkEq p q = true ↔ p = q := by
  obtain ⟨a1, a2, a3, a4, a5, a6, a7, a8⟩ := p
  obtain ⟨b1, b2, b3, b4, b5, b6, b7, b8⟩ := q
  simp [pkEq]
theorem pkEq_self (p : Pk) : pkEq p p = true := (pkEq_iff p p).2 rfl

theorem four_of (l : List UInt8) (h : l.length = 4) : ∃ x0 x1 x2 x3, l = [x0, x1, x2, x3] :=
  match l, h with
  | [x0, x1, x2, x3], _ => ⟨x0, x1, x2, x3, rfl⟩
theorem ten (l : List UInt8) (h : 10 ≤ l.length) : ∃ b0 b1 b2 b3 b4 b5 b6 b7 b8 b9 r, l = b0 :: b1 :: b2 :: b3 :: b4 :: b5 :: b6 :: b7 :: b8 :: b9 :: r :=
  match l, h with
  | b0 :: b1 :: b2 :: b3 :: b4 :: b5 :: b6 :: b7 :: b8 :: b9 :: r, _ => ⟨b0, b1, b2, b3, b4, b5, b6, b7, b8, b9, r, rfl⟩
theorem twenty (l : List UInt8) (h : 20 ≤ l.length) : ∃ b0 b1 b2 b3 b4 b5 b6 b7 b8 b9 b10 b11 b12 b13 b14 b15 b16 b17 b18 b19 r, l = b0 :: b1 :: b2 :: b3 :: b4 :: b5 :: b6 :: b7 :: b8 :: b9 :: b10 :: b11 :: b12 :: b13 :: b14 :: b15 :: b16 :: b17 :: b18 :: b19 :: r := by
  obtain ⟨b0, b1, b2, b3, b4, b5, b6, b7, b8, b9, r, rfl⟩ := ten l (by omega)
  obtain ⟨b10, b11, b12, b13, b14, b15, b16, b17, b18, b19, r', rfl⟩ := ten r (by simp at h; omega)
  exact ⟨b0, b1, b2, b3, b4, b5, b6, b7, b8, b9, b10, b11, b12, b13, b14, b15, b16, b17, b18, b19, r', rfl⟩

theorem u8_of (n : Nat) : (UInt8.ofNat n).toNat = n % 256 := by rw [UInt8.toNat_ofNat']
theorem tot_two (n : Nat) (h : n < 65536) : tot true (two n) = n := by
  simp only [two, tot, u8_of]
  omega
theorem par_len (l : List UInt8) (h : l.length % 2 = 0) : par l = true := by unfold par; simp [h]
theorem front_length (p : Pk) : (front p).length = 10 := rfl
theorem bytes_length {p : Pk} (h : p.ok) : p.bytes.length = 20 + p.data.length := by
  obtain ⟨_, h1, h2⟩ := h
  simp [Pk.bytes, front_length, two_length, h1, h2]
  omega
theorem sum_fixed (t : Nat) : fold16 (t + (65535 - fold16 t)) = 65535 := by
  unfold fold16
  split
  · split <;> (try split) <;> omega
  · split
    · split <;> (try split) <;> omega
    · split <;> (try split) <;> omega
/-- the head that is built is right -/
theorem head_right (p : Pk) : sumL (front p ++ two (65535 - sumL (bare p)) ++ p.src ++ p.dst) = 65535 := by
  have hs := sumL_le (bare p)
  have e1 : tot true (bare p) = tot true (front p) + tot true (p.src ++ p.dst) := by
    unfold bare
    rw [List.append_assoc (front p ++ [0, 0]), List.append_assoc, tot_even _ _ (par_len _ (by rw [front_length])), tot_even _ _ (par_len _ rfl)]
    simp [tot]
  have e2 : tot true (front p ++ two (65535 - sumL (bare p)) ++ p.src ++ p.dst) = tot true (bare p) + (65535 - fold16 (tot true (bare p))) := by
    rw [List.append_assoc (front p ++ two _), List.append_assoc (front p), tot_even _ _ (par_len _ (by rw [front_length])), tot_even _ _ (par_len _ (by rw [two_length])), tot_two _ (by omega), e1]
    show _ + ((65535 - sumL (bare p)) + _) = _
    rw [← e1]
    show _ + (65535 - fold16 (tot true (bare p)) + _) = _
    omega
  show fold16 _ = _
  rw [e2]
  exact sum_fixed _

theorem num_two (n : Nat) (h : n < 65536) : 256 * (UInt8.ofNat (n / 256)).toNat + (UInt8.ofNat n).toNat = n := by
  rw [u8_of, u8_of]
  omega

theorem placed_iff (p : Pk) : placedB p = true ↔ (0 ≤ p.off ∧ p.off ≤ 65528 ∧ p.off % 8 = 0) ∧ (p.more = true → p.data.length % 8 = 0) := by unfold placedB; exact decide_eq_true_iff

set_option maxRecDepth 4000 in
/-- what is built is parsed, whatever stands behind -/
theorem parse_bytes {p : Pk} (h : p.ok) (hp : placedB p = true) (hd : p.data.length ≤ 180) (m : List UInt8) : parseP (p.bytes ++ m) = (p, 0) := by
  have hl := bytes_length h
  have hr := head_right p
  have ho := (placed_iff p).1 hp
  obtain ⟨hid, hs, ht⟩ := h
  have hpl : placeN p < 65536 := by unfold placeN; split <;> omega
  have e2 : numAt (p.bytes ++ m) 2 = 20 + p.data.length := num_two _ (by omega)
  have e4 : numAt (p.bytes ++ m) 4 = p.id := num_two _ hid
  have e6 : numAt (p.bytes ++ m) 6 = placeN p := num_two _ hpl
  have eh0 : (p.bytes ++ m).getD 0 0 = 69 := rfl
  have eh : headOf (p.bytes ++ m) = 20 := by unfold headOf; rw [eh0]; rfl
  have htk : (p.bytes ++ m).take 20 = front p ++ two (65535 - sumL (bare p)) ++ p.src ++ p.dst := by
    unfold Pk.bytes
    rw [List.append_assoc _ p.data, List.take_append_of_le_length (by simp [front_length, two_length, hs, ht])]
    exact List.take_of_length_le (by simp [front_length, two_length, hs, ht])
  unfold parseP
  rw [if_neg (by rw [List.length_append]; omega), if_neg, if_neg (by rw [e2, List.length_append]; omega), eh, htk, if_neg (by rw [hr]; simp)]
  · unfold pkOf
    rw [e2, e4, e6, eh]
    have d12 : ((p.bytes ++ m).drop 12).take 4 = p.src := by
      unfold Pk.bytes
      rw [show front p ++ two (65535 - sumL (bare p)) ++ p.src ++ p.dst ++ p.data ++ m = (front p ++ two (65535 - sumL (bare p))) ++ (p.src ++ (p.dst ++ p.data ++ m)) from by simp [List.append_assoc],
        List.drop_left' (by simp [front_length, two_length]), List.take_append_of_le_length (by omega), List.take_of_length_le (by omega)]
    have d16 : ((p.bytes ++ m).drop 16).take 4 = p.dst := by
      unfold Pk.bytes
      rw [show front p ++ two (65535 - sumL (bare p)) ++ p.src ++ p.dst ++ p.data ++ m = (front p ++ two (65535 - sumL (bare p)) ++ p.src) ++ (p.dst ++ (p.data ++ m)) from by simp [List.append_assoc],
        List.drop_left' (by simp [front_length, two_length, hs]), List.take_append_of_le_length (by omega), List.take_of_length_le (by omega)]
    have d20 : ((p.bytes ++ m).take (20 + p.data.length)).drop 20 = p.data := by
      rw [List.take_append_of_le_length (by omega), List.take_of_length_le (by omega)]
      unfold Pk.bytes
      exact List.drop_left' (by simp [front_length, two_length, hs, ht])
    rw [d12, d16, d20]
    have em : decide (placeN p / 8192 % 2 = 1) = p.more := by
      unfold placeN
      cases hm : p.more with
      | true => rw [if_pos rfl]; simp; omega
      | false => rw [if_neg (by simp)]; simp; omega
    have eo : ((placeN p % 8192 * 8 : Nat) : Int) = p.off := by
      unfold placeN
      split <;> omega
    rw [em, eo]
    rfl
  · rw [e2, eh, eh0, show (69 : UInt8).toNat = 69 from rfl]
    omega

/-- a byte of a sum that is right is another one: the sum is wrong -/
theorem tot_set : ∀ (l : List UInt8) (i : Nat) (x : UInt8) (b : Bool), i < l.length → (tot b (l.set i x) + (if (i % 2 = 0) = (b = true) then 256 * (l.getD i 0).toNat else (l.getD i 0).toNat) = tot b l + (if (i % 2 = 0) = (b = true) then 256 * x.toNat else x.toNat))
  | [], _, _, _, h => by simp at h
  | c :: r, 0, x, b, _ => by
    cases b
    · simp [tot]; omega
    · simp [tot]; omega
  | c :: r, i + 1, x, b, h => by
    have h' : i < r.length := by simpa using h
    have ih := tot_set r i x (!b) h'
    have e : (((i + 1) % 2 = 0) = (b = true)) = ((i % 2 = 0) = ((!b) = true)) := by
      rcases Nat.mod_two_eq_zero_or_one i with hi | hi
      · rw [hi, show (i + 1) % 2 = 1 from by omega]; cases b <;> simp
      · rw [hi, show (i + 1) % 2 = 0 from by omega]; cases b <;> simp
    simp only [e]
    rw [List.set_cons_succ, List.getD_cons_succ]
    cases b
    · show c.toNat + tot true _ + _ = c.toNat + tot true r + _
      have ih' : tot true (r.set i x) + _ = tot true r + _ := ih
      omega
    · show 256 * c.toNat + tot false _ + _ = 256 * c.toNat + tot false r + _
      have ih' : tot false (r.set i x) + _ = tot false r + _ := ih
      omega
theorem fold_right (n : Nat) : fold16 n = 65535 ↔ n ≠ 0 ∧ n % 65535 = 0 := by
  unfold fold16
  split
  · omega
  · split <;> omega
theorem right_turned (l : List UInt8) (i : Nat) (x : UInt8) (hi : i < l.length) (hx : x ≠ l.getD i 0) (h : sumL l = 65535) : sumL (l.set i x) ≠ 65535 := by
  intro h2
  have h1 := (fold_right _).1 h
  have h3 := (fold_right _).1 h2
  have h4 := tot_set l i x true hi
  have hne : x.toNat ≠ (l.getD i 0).toNat := fun e => hx (UInt8.toNat_inj.1 e)
  have b1 := x.toNat_lt
  have b2 := (l.getD i 0).toNat_lt
  generalize (l.getD i 0).toNat = y at *
  generalize x.toNat = z at *
  generalize tot true l = s at *
  generalize tot true (l.set i x) = t at *
  obtain ⟨_, h1⟩ := h1
  obtain ⟨_, h3⟩ := h3
  split at h4 <;> omega

theorem parse_zero (l : List UInt8) (h : (parseP l).2 ≠ 0) : (parseP l).1 = Pk.zero := by
  unfold parseP at h ⊢
  split
  · rfl
  · rename_i h1
    rw [if_neg h1] at h
    split
    · rfl
    · rename_i h2
      rw [if_neg h2] at h
      split
      · rfl
      · rename_i h3
        rw [if_neg h3] at h
        split
        · rfl
        · rename_i h4
          rw [if_neg h4] at h
          exact absurd rfl h
theorem parse_some {l : List UInt8} (h : (parseP l).2 = 0) : 20 ≤ l.length ∧ (l.getD 0 0).toNat / 16 = 4 ∧ 20 ≤ headOf l ∧ headOf l ≤ numAt l 2 ∧ numAt l 2 ≤ l.length ∧ sumL (l.take (headOf l)) = 65535 ∧ (parseP l).1 = pkOf l := by
  unfold parseP at h ⊢
  by_cases h1 : l.length < 20
  · rw [if_pos h1] at h; cases h
  · rw [if_neg h1] at h ⊢
    by_cases h2 : (l.getD 0 0).toNat / 16 ≠ 4 ∨ headOf l < 20 ∨ numAt l 2 < headOf l
    · rw [if_pos h2] at h; cases h
    · rw [if_neg h2] at h ⊢
      by_cases h3 : l.length < numAt l 2
      · rw [if_pos h3] at h; cases h
      · rw [if_neg h3] at h ⊢
        by_cases h4 : sumL (l.take (headOf l)) ≠ 65535
        · rw [if_pos h4] at h; cases h
        · rw [if_neg h4] at h ⊢
          exact ⟨by omega, by omega, by omega, by omega, by omega, by simpa using h4, rfl⟩
theorem numAt_lt (l : List UInt8) (k : Nat) : numAt l k < 65536 := by
  unfold numAt
  have := (l.getD k 0).toNat_lt
  have := (l.getD (k + 1) 0).toNat_lt
  omega
theorem pkOf_ok {l : List UInt8} (h : 20 ≤ l.length) : (pkOf l).ok :=
  ⟨numAt_lt l 4, by simp [pkOf]; omega, by simp [pkOf]; omega⟩
theorem parse_ok (l : List UInt8) : (parseP l).1.ok := by
  by_cases h : (parseP l).2 = 0
  · have := parse_some h
    rw [this.2.2.2.2.2.2]
    exact pkOf_ok this.1
  · rw [parse_zero l h]
    exact ⟨by decide, rfl, rfl⟩
/-- what is built, one byte of its head turned, is not parsed as what it was -/
theorem parse_turned {p : Pk} (h : p.ok) (hp : placedB p = true) (hd : p.data.length ≤ 180) (i : Nat) (hi : i < 20) (x : UInt8) (hx : x ≠ p.bytes.getD i 0) : (parseP (p.bytes.set i x)).2 = 0 → (parseP (p.bytes.set i x)).1 ≠ p := by
  intro h0 heq
  obtain ⟨_, h2, h3, h4, h5, h6, h7⟩ := parse_some h0
  rw [h7] at heq
  have hlen := bytes_length h
  have hpb := parse_bytes h hp hd []
  rw [List.append_nil] at hpb
  obtain ⟨_, _, _, _, _, g6, g7⟩ := parse_some (l := p.bytes) (by rw [hpb])
  have hdl : (pkOf (p.bytes.set i x)).data.length = numAt (p.bytes.set i x) 2 - headOf (p.bytes.set i x) := by
    simp only [pkOf, List.length_drop, List.length_take]
    omega
  rw [heq] at hdl
  have get : ∀ k, (p.bytes.set i x).getD k 0 = if i = k ∧ i < p.bytes.length then x else p.bytes.getD k 0 := fun k => by
    simp only [List.getD_eq_getElem?_getD, List.getElem?_set]
    by_cases hik : i = k
    · subst hik
      by_cases hl : i < p.bytes.length
      · simp [hl]
      · omega
    · simp [hik]
  have n2 : numAt p.bytes 2 = 20 + p.data.length := num_two _ (by omega)
  have hhd : headOf (p.bytes.set i x) = 20 := by
    by_cases hi0 : i = 0
    · have : numAt (p.bytes.set i x) 2 = numAt p.bytes 2 := by
        unfold numAt
        rw [get 2, get 3, if_neg (by omega), if_neg (by omega)]
      omega
    · unfold headOf
      rw [get 0, if_neg (by omega), show p.bytes.getD 0 0 = 69 from rfl]
      rfl
  rw [hhd, List.take_set] at h6
  have hg : headOf p.bytes = 20 := by unfold headOf; rw [show p.bytes.getD 0 0 = 69 from rfl]; rfl
  rw [hg] at g6
  have hlt : (p.bytes.take 20).length = 20 := by rw [List.length_take]; omega
  refine right_turned (p.bytes.take 20) i x (by omega) ?_ g6 h6
  have : (p.bytes.take 20).getD i 0 = p.bytes.getD i 0 := by simp [List.getD_eq_getElem?_getD, hi]
  rw [this]
  exact hx
/-- what is parsed is built, or tells why not -/
theorem off_ok (l : List UInt8) : 0 ≤ (pkOf l).off ∧ (pkOf l).off ≤ 65528 ∧ (pkOf l).off % 8 = 0 := by
  show 0 ≤ ((numAt l 6 % 8192 * 8 : Nat) : Int) ∧ ((numAt l 6 % 8192 * 8 : Nat) : Int) ≤ 65528 ∧ ((numAt l 6 % 8192 * 8 : Nat) : Int) % 8 = 0
  omega
theorem build_back {p : Pk} (ho : 0 ≤ p.off ∧ p.off ≤ 65528 ∧ p.off % 8 = 0) :
    (p.more = true ∧ p.data.length % 8 ≠ 0 ∧ buildP p = ([], 1)) ∨ (180 < p.data.length ∧ buildP p = ([], 4)) ∨ (placedB p = true ∧ p.data.length ≤ 180 ∧ buildP p = (p.bytes, 0)) := by
  by_cases h1 : placedB p = true
  · by_cases h2 : 180 < p.data.length
    · exact .inr (.inl ⟨h2, by unfold buildP; rw [if_pos h1, if_pos h2]⟩)
    · exact .inr (.inr ⟨h1, by omega, by unfold buildP; rw [if_pos h1, if_neg h2]⟩)
  · refine .inl ?_
    have hn : ¬ ((0 ≤ p.off ∧ p.off ≤ 65528 ∧ p.off % 8 = 0) ∧ (p.more = true → p.data.length % 8 = 0)) := fun hh => h1 ((placed_iff p).2 hh)
    have hm : ¬ (p.more = true → p.data.length % 8 = 0) := fun hh => hn ⟨ho, hh⟩
    have hm2 : p.more = true ∧ p.data.length % 8 ≠ 0 := by
      by_cases hmm : p.more = true
      · exact ⟨hmm, fun hh => hm fun _ => hh⟩
      · exact absurd (fun hh => absurd hh hmm) hm
    exact ⟨hm2.1, hm2.2, by unfold buildP; rw [if_neg h1]⟩
end Go.Proofs.Ytjgdmkmfnkaoaaa
