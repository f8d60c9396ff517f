/-
  Routes that are added in another order are the same. Plain mathematics. No condition.
-/
import Derived.Test.YtfifigokglmjlaaRom
namespace Go.Proofs.Ytfifigokglmjlaa
open Go.RowKit

/-- routes added one after another -/
def addsX (K : List Ro) (l : List Ro) : List Ro := l.foldl (fun K r => (addX K r).1) K
/-- alike in what they are for -/
def likeR (a b : Ro) : Prop := a.net = b.net ∧ a.bits = b.bits
theorem adds_snoc {K l : List Ro} {i : Nat} {r : Ro} (h : l[i]? = some r) : addsX K (l.take (i + 1)) = (addX (addsX K (l.take i)) r).1 := by
  unfold addsX
  rw [take_snoc h, List.foldl_append]
  rfl
theorem add_len (K : List Ro) (r : Ro) : (addX K r).1.length ≤ K.length + 1 := by
  unfold addX
  split
  · exact Nat.le_succ _
  · split
    · exact Nat.le_succ _
    · split
      · exact Nat.le_succ _
      · rw [ins_length]
        exact Nat.le_refl _
theorem adds_len : ∀ (l K : List Ro), (addsX K l).length ≤ K.length + l.length
  | [], K => Nat.le_refl _
  | r :: l, K => by
    have h1 := adds_len l (addX K r).1
    have h2 := add_len K r
    rw [List.length_cons]
    have : addsX K (r :: l) = addsX (addX K r).1 l := rfl
    rw [this]
    omega
theorem add_one {K : List Ro} {r : Ro} (h : (addX K r).1.length = K.length + 1) : (0 ≤ r.bits ∧ r.bits ≤ 32) ∧ K.any (isR (maskR r).net r.bits) = false ∧ K.length < 8 ∧ (addX K r).1 = insX (maskR r) K := by
  unfold addX at h ⊢
  by_cases hb : r.bits < 0 ∨ 32 < r.bits
  · rw [if_pos hb] at h
    simp at h
  · rw [if_neg hb] at h ⊢
    cases hn : K.any (isR (maskR r).net r.bits)
    · rw [hn, if_neg (by decide)] at h
      rw [if_neg (by decide)]
      by_cases h8 : 8 ≤ K.length
      · rw [if_pos h8] at h
        simp at h
      · rw [if_neg h8]
        exact ⟨by omega, rfl, by omega, rfl⟩
    · rw [hn, if_pos rfl] at h
      simp at h
theorem adds_right : ∀ (l : List Ro) {K : List Ro}, rightX K = true → rightX (addsX K l) = true
  | [], _, h => h
  | r :: l, _, h => adds_right l (right_add (r := r) h)
theorem adds_all : ∀ (l K : List Ro), (addsX K l).length = K.length + l.length → (∀ r ∈ l, 0 ≤ r.bits ∧ r.bits ≤ 32) ∧ (addsX K l).Perm (l.map maskR ++ K)
  | [], K, _ => ⟨fun _ h => by (cases h), List.Perm.refl _⟩
  | r :: l, K, h => by
    have hs : addsX K (r :: l) = addsX (addX K r).1 l := rfl
    rw [hs, List.length_cons] at h
    have h1 := adds_len l (addX K r).1
    have h2 := add_len K r
    obtain ⟨hb, _, _, he⟩ := add_one (K := K) (r := r) (by omega)
    obtain ⟨h3, h4⟩ := adds_all l (addX K r).1 (by omega)
    refine ⟨fun x hx => ?_, ?_⟩
    · rcases List.mem_cons.1 hx with rfl | hx
      · exact hb
      · exact h3 x hx
    · rw [hs]
      refine h4.trans ?_
      rw [he]
      refine ((ins_perm (maskR r) K).append_left _).trans ?_
      exact List.perm_middle
theorem adds_ok : ∀ (l K : List Ro), (∀ r ∈ l, 0 ≤ r.bits ∧ r.bits ≤ 32) → (l.map maskR ++ K).Pairwise (fun a b => ¬ likeR a b) → K.length + l.length ≤ 8 → (addsX K l).Perm (l.map maskR ++ K)
  | [], _, _, _, _ => List.Perm.refl _
  | r :: l, K, hb, hp, hl => by
    have hs : addsX K (r :: l) = addsX (addX K r).1 l := rfl
    rw [List.length_cons] at hl
    have hp2 : (l.map maskR ++ insX (maskR r) K).Pairwise (fun a b => ¬ likeR a b) := by
      refine (List.Perm.pairwise_iff (fun h k => h ⟨k.1.symm, k.2.symm⟩) ?_).1 hp
      rw [List.map_cons]
      exact (List.perm_middle.symm.trans ((ins_perm (maskR r) K).symm.append_left _))
    have hno : K.any (isR (maskR r).net r.bits) = false := by
      rw [List.map_cons, List.cons_append, List.pairwise_cons] at hp
      rw [List.any_eq_false]
      intro x hx hc
      have := hp.1 x (List.mem_append_right _ hx)
      have hc := of_decide_eq_true hc
      exact this ⟨hc.1.symm, hc.2.symm⟩
    have hbr := hb r (List.mem_cons_self ..)
    have he : (addX K r).1 = insX (maskR r) K := by
      unfold addX
      rw [if_neg (by omega), hno, if_neg (by decide), if_neg (by omega)]
    rw [hs, he]
    refine (adds_ok l _ (fun x hx => hb x (List.mem_cons_of_mem _ hx)) hp2 (by rw [ins_length]; omega)).trans ?_
    refine ((ins_perm (maskR r) K).append_left _).trans ?_
    exact List.perm_middle
theorem right_unlike {K : List Ro} (h : rightX K = true) : K.Pairwise (fun a b => ¬ likeR a b) := by
  refine (right_iff.1 h).2.2.imp fun {a b} hab hl => ?_
  have := first_iff.1 hab
  rw [hl.1, hl.2] at this
  omega
/-- the same routes, added in another order -/
theorem adds_turn {l m : List Ro} (hp : m.Perm l) (h : (addsX [] l).length = l.length) : addsX [] m = addsX [] l := by
  obtain ⟨hb, hl⟩ := adds_all l [] (by rw [h, List.length_nil, Nat.zero_add])
  rw [List.append_nil] at hl
  have hr := adds_right l right_nil
  have h8 := right_len hr
  have hm : (addsX [] m).Perm (m.map maskR) := by
    have := adds_ok m [] (fun r hr => hb r (hp.mem_iff.1 hr)) (by
      rw [List.append_nil]
      refine (List.Perm.pairwise_iff (fun h k => h ⟨k.1.symm, k.2.symm⟩) ?_).1 (right_unlike hr)
      exact hl.trans (hp.map maskR).symm) (by
      rw [List.length_nil, hp.length_eq]
      omega)
    rwa [List.append_nil] at this
  exact right_perm (right_iff.1 (adds_right m right_nil)).2.2 (right_iff.1 hr).2.2 (hm.trans ((hp.map maskR).trans hl.symm))
def rotX (l : List Ro) (t : Nat) : List Ro := l.drop t ++ l.take t
theorem rot_perm (l : List Ro) (t : Nat) : (rotX l t).Perm l := by
  unfold rotX
  have := List.perm_append_comm (l₁ := l.drop t) (l₂ := l.take t)
  rwa [List.take_append_drop] at this
theorem rot_len (l : List Ro) (t : Nat) : (rotX l t).length = l.length := (rot_perm l t).length_eq
theorem rot_at {l : List Ro} {t i : Nat} (ht : t < l.length) (hi : i < l.length) : (rotX l t)[i]? = l[(i + t) % l.length]? := by
  unfold rotX
  by_cases h : i < l.length - t
  · rw [List.getElem?_append_left (by rw [List.length_drop]; exact h), List.getElem?_drop, Nat.mod_eq_of_lt (by omega), Nat.add_comm]
  · rw [List.getElem?_append_right (by rw [List.length_drop]; omega), List.length_drop, List.getElem?_take, if_pos (by omega)]
    congr 1
    rw [Nat.mod_eq_sub_mod (by omega), Nat.mod_eq_of_lt (by omega)]
    omega
theorem del_first {K : List Ro} {j : Nat} {r : Ro} (h : K[j]? = some r) : delX (K.drop j) r.net r.bits = (K.drop (j + 1), 0) := by
  rw [List.drop_eq_getElem?_toList_append, h]
  unfold delX
  have : isR r.net r.bits r = true := decide_eq_true ⟨rfl, rfl⟩
  show (match List.findIdx? (isR r.net r.bits) (r :: K.drop (j + 1)) with | none => _ | some i => _) = _
  rw [List.findIdx?_cons, this]
  rfl
theorem find_nil (dst : Ip) : findX [] dst = (zeroIp, 15) := rfl
end Go.Proofs.Ytfifigokglmjlaa
