/-
  Routes: what right ones are (in order, no two alike), that they stay right, which one counts. Plain mathematics. No condition.
-/
import Derived.Test.YtfifigokglmjlaaRfa
import Derived.Test.YtfifigokglmjlaaRfr
import Derived.Test.YtfifigokglmjlaaRfn
namespace Go.Proofs.Ytfifigokglmjlaa
open Go.RowKit

def okB (r : Ro) : Prop := 0 ≤ r.bits ∧ r.bits ≤ 32 ∧ maskX r.net r.bits.toNat = r.net
theorem first_iff {a b : Ro} : firstX a b = true ↔ b.bits < a.bits ∨ a.bits = b.bits ∧ a.net.num < b.net.num := decide_eq_true_iff
theorem first_trans {a b c : Ro} (h : firstX a b = true) (k : firstX b c = true) : firstX a c = true := by
  rw [first_iff] at *
  omega
theorem first_irr (a : Ro) : firstX a a = false := by
  refine decide_eq_false ?_
  omega
theorem first_asym {a b : Ro} (h : firstX a b = true) : firstX b a = false := by
  rw [first_iff] at h
  refine decide_eq_false ?_
  omega
theorem first_total {a b : Ro} (h : firstX a b = false) (k : isR a.net a.bits b = false) : firstX b a = true := by
  have h1 : ¬ (b.bits < a.bits ∨ a.bits = b.bits ∧ a.net.num < b.net.num) := of_decide_eq_false h
  have h2 : ¬ (b.net = a.net ∧ b.bits = a.bits) := of_decide_eq_false k
  rw [first_iff]
  by_cases hb : b.bits = a.bits
  · have hn : ¬ b.net.num = a.net.num := fun e => h2 ⟨ip_inj e, hb⟩
    omega
  · omega
theorem okR_iff {p : Option Ro} {r : Ro} : okR p r = true ↔ okB r ∧ ∀ q, p = some q → firstX q r = true := by
  unfold okR okB
  rw [Bool.and_eq_true, decide_eq_true_iff]
  cases p with
  | none => simp
  | some q => simp
theorem right_iff {K : List Ro} : rightX K = true ↔ K.length ≤ 8 ∧ (∀ r ∈ K, okB r) ∧ K.Pairwise (fun a b => firstX a b = true) := by
  unfold rightX
  rw [Bool.and_eq_true, decide_eq_true_iff, List.all_eq_true]
  constructor
  · rintro ⟨h, hl⟩
    have hat : ∀ i (hi : i < K.length), okB K[i] ∧ ∀ q, (if i = 0 then none else K[i - 1]?) = some q → firstX q K[i] = true := fun i hi => by
      have := h i (List.mem_range.2 hi)
      rw [okI_at (List.getElem?_eq_getElem hi), okR_iff] at this
      exact this
    have hnext : ∀ k (hk : k + 1 < K.length), firstX (K[k]'(Nat.lt_of_succ_lt hk)) K[k + 1] = true := fun k hk => by
      refine (hat (k + 1) hk).2 _ ?_
      rw [if_neg (by omega), Nat.add_sub_cancel]
      exact List.getElem?_eq_getElem _
    refine ⟨hl, fun r hr => ?_, ?_⟩
    · obtain ⟨i, hi, rfl⟩ := List.mem_iff_getElem.1 hr
      exact (hat i hi).1
    · rw [List.pairwise_iff_getElem]
      intro i j hi hj hij
      obtain ⟨d, hd⟩ : ∃ d, j = i + 1 + d := ⟨j - (i + 1), by omega⟩
      subst hd
      clear hij hat
      induction d with
      | zero => exact hnext i hj
      | succ d ih => exact first_trans (ih (by omega)) (hnext (i + 1 + d) hj)
  · rintro ⟨hl, hb, hp⟩
    refine ⟨fun i hi => ?_, hl⟩
    have hi := List.mem_range.1 hi
    rw [okI_at (List.getElem?_eq_getElem hi), okR_iff]
    refine ⟨hb _ (List.getElem_mem hi), fun q hq => ?_⟩
    split at hq
    · cases hq
    · rw [List.getElem?_eq_getElem (by omega)] at hq
      injection hq with hq
      rw [← hq]
      exact List.pairwise_iff_getElem.1 hp _ _ _ _ (by omega)
theorem right_nil : rightX [] = true := rfl
theorem right_len {K : List Ro} (h : rightX K = true) : K.length ≤ 8 := (right_iff.1 h).1
theorem mask_ok {r : Ro} (h0 : 0 ≤ r.bits) (h1 : r.bits ≤ 32) : okB (maskR r) := ⟨h0, h1, mask_idem _ _⟩
theorem ins_length (r : Ro) (K : List Ro) : (insX r K).length = K.length + 1 := by
  unfold insX
  have := congrArg List.length (List.takeWhile_append_dropWhile (p := fun q => !firstX r q) (l := K))
  rw [List.length_append] at this ⊢
  rw [List.length_cons]
  omega
theorem ins_perm (r : Ro) (K : List Ro) : (insX r K).Perm (r :: K) := by
  unfold insX
  refine List.perm_middle.trans ?_
  rw [List.takeWhile_append_dropWhile]
theorem ins_mem {r x : Ro} {K : List Ro} : x ∈ insX r K ↔ x = r ∨ x ∈ K := by
  rw [(ins_perm r K).mem_iff, List.mem_cons]
theorem drop_head {p : Ro → Bool} : ∀ (K : List Ro) (x : Ro) (t : List Ro), K.dropWhile p = x :: t → p x = false
  | [], _, _, h => by cases h
  | y :: K, x, t, h => by
    rw [List.dropWhile_cons] at h
    split at h
    · exact drop_head K x t h
    · rename_i hy
      injection h with h1 h2
      rw [← h1]
      simpa using hy
theorem take_all {p : Ro → Bool} : ∀ (K : List Ro) (x : Ro), x ∈ K.takeWhile p → p x = true ∧ x ∈ K
  | [], x, h => by cases h
  | y :: K, x, h => by
    rw [List.takeWhile_cons] at h
    split at h
    · rename_i hy
      rcases List.mem_cons.1 h with rfl | h
      · exact ⟨hy, List.mem_cons_self ..⟩
      · exact ⟨(take_all K x h).1, List.mem_cons_of_mem _ (take_all K x h).2⟩
    · cases h
theorem right_ins {r : Ro} {K : List Ro} (h : rightX K = true) (hl : K.length < 8) (hr : okB r) (hn : K.any (isR r.net r.bits) = false) : rightX (insX r K) = true := by
  obtain ⟨_, hb, hp⟩ := right_iff.1 h
  refine right_iff.2 ⟨by rw [ins_length]; omega, fun x hx => ?_, ?_⟩
  · rcases ins_mem.1 hx with rfl | hx
    · exact hr
    · exact hb x hx
  · unfold insX
    have hsplit := List.takeWhile_append_dropWhile (p := fun q => !firstX r q) (l := K)
    rw [← hsplit, List.pairwise_append] at hp
    obtain ⟨hp1, hp2, hp3⟩ := hp
    have hd : ∀ x ∈ K.dropWhile (fun q => !firstX r q), firstX r x = true := fun x hx => by
      cases hk : K.dropWhile (fun q => !firstX r q) with
      | nil => rw [hk] at hx; cases hx
      | cons y t =>
        have hy := drop_head _ _ _ hk
        have hy : firstX r y = true := by simpa using hy
        rw [hk] at hx hp2
        rcases List.mem_cons.1 hx with rfl | hx
        · exact hy
        · exact first_trans hy ((List.pairwise_cons.1 hp2).1 x hx)
    rw [List.pairwise_append, List.pairwise_cons]
    refine ⟨hp1, ⟨hd, hp2⟩, fun a ha b hb' => ?_⟩
    obtain ⟨ha1, ha2⟩ := take_all _ _ ha
    have har : firstX a r = true := first_total (by simpa using ha1) (by
      have := List.any_eq_false.1 hn a ha2
      simpa using this)
    rcases List.mem_cons.1 hb' with rfl | hb'
    · exact har
    · exact first_trans har (hd b hb')
theorem right_add {K : List Ro} {r : Ro} (h : rightX K = true) : rightX (addX K r).1 = true := by
  unfold addX
  by_cases hb : r.bits < 0 ∨ 32 < r.bits
  · rw [if_pos hb]; exact h
  · rw [if_neg hb]
    cases hn : K.any (isR (maskR r).net r.bits)
    · rw [if_neg (by decide)]
      by_cases h8 : 8 ≤ K.length
      · rw [if_pos h8]; exact h
      · rw [if_neg h8]
        exact right_ins h (by omega) (mask_ok (by omega) (by omega)) hn
    · rw [if_pos rfl]; exact h
theorem right_sub {K M : List Ro} (h : rightX K = true) (hs : M.Sublist K) : rightX M = true := by
  obtain ⟨hl, hb, hp⟩ := right_iff.1 h
  exact right_iff.2 ⟨by have := hs.length_le; omega, fun r hr => hb r (hs.subset hr), hp.sublist hs⟩
theorem right_del {K : List Ro} {net : Ip} {bits : Int} (h : rightX K = true) : rightX (delX K net bits).1 = true := by
  unfold delX
  split
  · exact h
  · exact right_sub h (List.eraseIdx_sublist ..)
/-- right lists of the same routes are one -/
theorem right_perm : ∀ {K M : List Ro}, K.Pairwise (fun a b => firstX a b = true) → M.Pairwise (fun a b => firstX a b = true) → K.Perm M → K = M
  | [], M, _, _, hp => (List.nil_perm.1 hp).symm
  | x :: K, [], _, _, hp => by
    have := hp.length_eq
    cases this
  | x :: K, y :: M, hK, hM, hp => by
    obtain ⟨h1, h2⟩ := List.pairwise_cons.1 hK
    obtain ⟨h3, h4⟩ := List.pairwise_cons.1 hM
    have hxy : x = y := by
      have hx : x ∈ y :: M := hp.mem_iff.1 (List.mem_cons_self ..)
      have hy : y ∈ x :: K := hp.mem_iff.2 (List.mem_cons_self ..)
      rcases List.mem_cons.1 hx with e | hx
      · exact e
      · rcases List.mem_cons.1 hy with e | hy
        · exact e.symm
        · have := first_asym (h1 y hy)
          rw [h3 x hx] at this
          cases this
    subst hxy
    rw [right_perm h2 h4 (List.Perm.cons_inv hp)]

/-! ### which one counts -/
theorem best_some {dst : Ip} {K : List Ro} : ∀ (b : Ro), (∀ r ∈ K, r.bits ≤ b.bits) → K.foldl (stepB dst) (some b) = some b := by
  induction K with
  | nil => exact fun _ _ => rfl
  | cons x K ih =>
    intro b h
    rw [List.foldl_cons]
    have : stepB dst (some b) x = some b := by
      unfold stepB
      split
      · have := h x (List.mem_cons_self ..)
        simp only
        rw [if_neg (by omega)]
      · rfl
    rw [this]
    exact ih b fun r hr => h r (List.mem_cons_of_mem _ hr)
def inX (dst : Ip) (r : Ro) : Bool := withinX dst r.net r.bits
theorem best_find {dst : Ip} : ∀ {K : List Ro}, K.Pairwise (fun a b => firstX a b = true) → bestX dst K = K.find? (inX dst)
  | [], _ => rfl
  | x :: K, h => by
    obtain ⟨h1, h2⟩ := List.pairwise_cons.1 h
    unfold bestX
    rw [List.foldl_cons, List.find?_cons]
    cases hx : inX dst x
    · have : stepB dst none x = none := by
        unfold stepB
        rw [show withinX dst x.net x.bits = false from hx]
        rfl
      rw [this]
      exact best_find h2
    · have : stepB dst none x = some x := by
        unfold stepB
        rw [show withinX dst x.net x.bits = true from hx]
        rfl
      rw [this]
      refine best_some x fun r hr => ?_
      have := first_iff.1 (h1 r hr)
      omega
/-- whom a host is had by, among the routes that it lies in -/
def byX (dst a : Ip) (r : Ro) : Bool := inX dst r && (decide (r.via = a) || (decide (r.via = zeroIp) && decide (a = dst)))
def bitsX (dst a : Ip) (K : List Ro) : Int := K.foldl (fun n r => if byX dst a r = true then max n r.bits else n) (-1)
theorem bits_snoc {dst a : Ip} {K : List Ro} {i : Nat} {r : Ro} (h : K[i]? = some r) : bitsX dst a (K.take (i + 1)) = if byX dst a r = true then max (bitsX dst a (K.take i)) r.bits else bitsX dst a (K.take i) := by
  unfold bitsX
  rw [take_snoc h, List.foldl_append]
  rfl
theorem bits_ge {dst a : Ip} : ∀ (K : List Ro) (n : Int), n ≤ K.foldl (fun n r => if byX dst a r = true then max n r.bits else n) n ∧ ∀ r ∈ K, byX dst a r = true → r.bits ≤ K.foldl (fun n r => if byX dst a r = true then max n r.bits else n) n
  | [], n => ⟨Int.le_refl _, fun _ h => by cases h⟩
  | x :: K, n => by
    rw [List.foldl_cons]
    obtain ⟨h1, h2⟩ := bits_ge (dst := dst) (a := a) K (if byX dst a x = true then max n x.bits else n)
    refine ⟨?_, fun r hr hb => ?_⟩
    · by_cases hb : byX dst a x = true
      · rw [if_pos hb] at h1 ⊢
        omega
      · rw [if_neg hb] at h1 ⊢
        exact h1
    · rcases List.mem_cons.1 hr with rfl | hr
      · rw [if_pos hb] at h1 h2 ⊢
        omega
      · exact h2 r hr hb
theorem bits_none {dst a : Ip} : ∀ (K : List Ro), (∀ r ∈ K, byX dst a r = false) → bitsX dst a K = -1 := by
  intro K h
  unfold bitsX
  induction K with
  | nil => rfl
  | cons x K ih =>
    rw [List.foldl_cons, h x (List.mem_cons_self ..), if_neg (by decide)]
    exact ih fun r hr => h r (List.mem_cons_of_mem _ hr)
theorem find_law {dst : Ip} {K : List Ro} (h : rightX K = true) : (∀ r ∈ K, inX dst r = true → r.bits ≤ bitsX dst (findX K dst).1 K) ∧ (((findX K dst).2 = 0) ↔ 0 ≤ bitsX dst (findX K dst).1 K) := by
  obtain ⟨_, hb, hp⟩ := right_iff.1 h
  have hbest := best_find (dst := dst) hp
  unfold findX
  cases hq : bestX dst K with
  | none =>
    rw [hq] at hbest
    have hno := List.find?_eq_none.1 hbest.symm
    have hby : ∀ r ∈ K, byX dst zeroIp r = false := fun r hr => by
      have := hno r hr
      unfold byX
      rw [show inX dst r = false from by simpa using this]
      rfl
    refine ⟨fun r hr hi => absurd hi (hno r hr), ?_⟩
    rw [show bitsX dst zeroIp K = -1 from bits_none K hby]
    simp
  | some q =>
    rw [hq] at hbest
    obtain ⟨hqi, l1, l2, hK, hl1⟩ := List.find?_eq_some_iff_append.1 hbest.symm
    have hqm : q ∈ K := by rw [hK]; simp
    have hbq : byX dst (viaX dst q) q = true := by
      unfold byX viaX
      rw [hqi]
      by_cases hv : q.via = zeroIp
      · simp [hv]
      · simp [hv]
    have hge := (bits_ge (dst := dst) (a := viaX dst q) K (-1)).2 q hqm hbq
    have hq0 := (hb q hqm).1
    refine ⟨fun r hr hi => ?_, ?_⟩
    · rw [hK] at hr hp
      have hrq : r.bits ≤ q.bits := by
        rcases List.mem_append.1 hr with hr | hr
        · have := hl1 r hr
          rw [hi] at this
          cases this
        · rcases List.mem_cons.1 hr with rfl | hr
          · exact Int.le_refl _
          · have := first_iff.1 ((List.pairwise_cons.1 (List.pairwise_append.1 hp).2.1).1 r hr)
            omega
      exact Int.le_trans hrq hge
    · exact ⟨fun _ => Int.le_trans hq0 hge, fun _ => rfl⟩
end Go.Proofs.Ytfifigokglmjlaa
