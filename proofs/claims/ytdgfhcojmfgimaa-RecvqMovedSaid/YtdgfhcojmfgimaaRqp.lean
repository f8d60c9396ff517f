/-
  The pieces of what came: what the runs of a list of numbers are. Plain mathematics. No condition.
-/
import Derived.Test.YtdgfhcojmfgimaaRq
namespace Go.Proofs.Ytdgfhcojmfgimaa
open Go.RowKit

/-- pieces, from a place on: what lies between them didn't come -/
def Pcs (l : List Int) : Nat → List (Nat × List UInt8) → Prop
  | t, [] => ∀ (i : Nat) c, t ≤ i → l[i]? = some c → c < 0
  | t, (o, d) :: r => t ≤ o ∧ d ≠ [] ∧ (∀ (i : Nat) c, t ≤ i → i < o → l[i]? = some c → c < 0) ∧ (∀ (k : Nat) b, d[k]? = some b → l[o + k]? = some (b.toNat : Int)) ∧ Pcs l (o + d.length) r
theorem pcs_back {l : List Int} {t : Nat} {ps : List (Nat × List UInt8)} (h : Pcs l (t + 1) ps) (hn : ∀ c, l[t]? = some c → c < 0) : Pcs l t ps := by
  cases ps with
  | nil =>
    intro i c hi hc
    by_cases he : i = t
    · subst he
      exact hn c hc
    · exact h i c (by omega) hc
  | cons p r =>
    obtain ⟨o, d⟩ := p
    obtain ⟨h1, h2, h3, h4, h5⟩ := h
    refine ⟨by omega, h2, fun i c hi hio hc => ?_, h4, h5⟩
    by_cases he : i = t
    · subst he
      exact hn c hc
    · exact h3 i c (by omega) hio hc
theorem byteOf_val {z : Int} (h0 : 0 ≤ z) (h1 : z ≤ 255) : ((byteOf z).toNat : Int) = z := by
  unfold byteOf
  rw [UInt8.toNat_ofNat']
  omega
theorem runs_pcs (L : List Int) (hb : ∀ c ∈ L, c ≤ 255) : ∀ (l : List Int) (i : Nat), L.drop i = l → Pcs L i (runsL i l)
  | [], i, h => by
    intro j c hj hc
    have := (List.getElem?_eq_some_iff.1 hc).1
    have h2 := congrArg List.length h
    rw [List.length_drop] at h2
    simp at h2
    omega
  | c :: l, i, h => by
    have hi : L[i]? = some c := by
      have := congrArg (·[0]?) h
      simpa using this
    have ht : L.drop (i + 1) = l := by
      have := congrArg (List.drop 1) h
      rwa [List.drop_drop] at this
    have ih := runs_pcs L hb l (i + 1) ht
    have hc5 := hb c (List.mem_of_getElem? hi)
    rw [runsL]
    by_cases hc : c < 0
    · rw [if_pos hc]
      exact pcs_back ih fun c' hc' => by rw [hi] at hc'; injection hc' with hc'; omega
    · rw [if_neg hc]
      have hv := byteOf_val (z := c) (by omega) hc5
      cases hr : runsL (i + 1) l with
      | nil =>
        rw [hr] at ih
        refine ⟨Nat.le_refl _, by simp, fun j c' h1 h2 => by omega, fun k b hk => ?_, ih⟩
        cases k with
        | zero => simp at hk; rw [Nat.add_zero, hi, ← hk, hv]
        | succ k => simp at hk
      | cons p r =>
        obtain ⟨j, d⟩ := p
        rw [hr] at ih
        obtain ⟨h1, h2, h3, h4, h5⟩ := ih
        dsimp only
        by_cases hj : j = i + 1
        · subst hj
          rw [if_pos rfl]
          refine ⟨Nat.le_refl _, by simp, fun j c' h1 h2 => by omega, fun k b hk => ?_, ?_⟩
          · cases k with
            | zero => simp at hk; rw [Nat.add_zero, hi, ← hk, hv]
            | succ k =>
              have := h4 k b (by simpa using hk)
              rwa [show i + 1 + k = i + (k + 1) from by omega] at this
          · rwa [List.length_cons, show i + (d.length + 1) = i + 1 + d.length from by omega]
        · rw [if_neg hj]
          refine ⟨Nat.le_refl _, by simp, fun j c' h1 h2 => by omega, fun k b hk => ?_, h1, h2, h3, h4, h5⟩
          cases k with
          | zero => simp at hk; rw [Nat.add_zero, hi, ← hk, hv]
          | succ k => simp at hk
theorem runs_first : ∀ (l : List Int) (i : Nat), (∀ c r, l = c :: r → 0 ≤ c → ∃ d r', runsL i l = (i, d) :: r') ∧ (∀ c r, l = c :: r → c < 0 → ∀ j d r', runsL i l = (j, d) :: r' → i < j) ∧ (∀ j d r', runsL i l = (j, d) :: r' → i ≤ j)
  | [], i => ⟨fun _ _ h => by (cases h), fun _ _ h => by (cases h), fun _ _ _ h => by (cases h)⟩
  | c :: l, i => by
    obtain ⟨h1, h2, h3⟩ := runs_first l (i + 1)
    have hpos : 0 ≤ c → ∃ d r', runsL i (c :: l) = (i, d) :: r' := fun hc => by
      rw [runsL, if_neg (by omega)]
      cases hr : runsL (i + 1) l with
      | nil => exact ⟨_, _, rfl⟩
      | cons p r =>
        obtain ⟨j, d⟩ := p
        dsimp only
        split
        · exact ⟨_, _, rfl⟩
        · exact ⟨_, _, rfl⟩
    have hneg : c < 0 → ∀ j d r', runsL i (c :: l) = (j, d) :: r' → i < j := fun hc j d r' h => by
      rw [runsL, if_pos hc] at h
      have := h3 j d r' h
      omega
    refine ⟨fun c' r h hc => ?_, fun c' r h hc => ?_, fun j d r' h => ?_⟩
    · injection h with e1 e2
      exact hpos (by omega)
    · injection h with e1 e2
      exact hneg (by omega)
    · rcases Int.lt_or_le c 0 with hc | hc
      · exact Nat.le_of_lt (hneg hc j d r' h)
      · obtain ⟨d', r2, h'⟩ := hpos hc
        rw [h'] at h
        injection h with h
        injection h with h
        omega
theorem runs_count : ∀ (l : List Int) (i : Nat), (runsL i l).length = runsN l + (match l with | c :: _ => if 0 ≤ c then 1 else 0 | [] => 0)
  | [], i => rfl
  | [c], i => by
    rw [runsL]
    simp only [runsL]
    split
    · rw [if_neg (by omega)]; rfl
    · rw [if_pos (by omega)]; rfl
  | c :: b :: l, i => by
    have ih := runs_count (b :: l) (i + 1)
    obtain ⟨h1, h2, h3⟩ := runs_first (b :: l) (i + 1)
    dsimp only at ih ⊢
    rw [runsL]
    simp only [runsN]
    by_cases hc : c < 0
    · rw [if_pos hc, ih]
      by_cases hb : 0 ≤ b
      · rw [if_pos hb, if_pos ⟨hb, hc⟩, if_neg (by omega)]; omega
      · rw [if_neg hb, if_neg (by omega), if_neg (by omega)]; omega
    · rw [if_neg hc, if_neg (by omega), if_pos (by omega)]
      by_cases hb : 0 ≤ b
      · obtain ⟨d, r, hr⟩ := h1 b l rfl hb
        rw [hr] at ih ⊢
        dsimp only
        rw [if_pos rfl]
        rw [if_pos hb] at ih
        simp only [List.length_cons] at ih ⊢
        omega
      · rw [if_neg hb] at ih
        cases hr : runsL (i + 1) (b :: l) with
        | nil =>
          rw [hr] at ih
          simp only [List.length_nil, List.length_cons] at ih ⊢
          omega
        | cons p r =>
          obtain ⟨j, d⟩ := p
          have := h2 b l rfl (by omega) j d r hr
          rw [hr] at ih
          dsimp only
          rw [if_neg (by omega)]
          simp only [List.length_cons] at ih ⊢
          omega
/-- the first numbers of a list, and nothing behind -/
def cutG (l : List Int) (t : Nat) : List Int := l.take t ++ List.replicate (l.length - t) (-1)
theorem cutG_length (l : List Int) (t : Nat) : (cutG l t).length = l.length := by
  unfold cutG
  rw [List.length_append, List.length_take, List.length_replicate]
  omega
theorem cutG_get {l : List Int} {t i : Nat} {c : Int} (h : l[i]? = some c) : (cutG l t)[i]? = some (if i < t then c else -1) := by
  have hi := (List.getElem?_eq_some_iff.1 h).1
  unfold cutG
  by_cases ht : i < t
  · rw [List.getElem?_append_left (by rw [List.length_take]; omega), List.getElem?_take, if_pos ht, if_pos ht, h]
  · rw [List.getElem?_append_right (by rw [List.length_take]; omega), List.length_take, if_neg ht, List.getElem?_replicate, if_pos (by omega)]
theorem cutG_ext {l m : List Int} (hl : m.length = l.length) {t : Nat} (h : ∀ (i : Nat) c, l[i]? = some c → m[i]? = some (if i < t then c else -1)) : m = cutG l t := by
  refine List.ext_getElem? fun i => ?_
  by_cases hi : i < l.length
  · have e := List.getElem?_eq_getElem hi
    rw [h i _ e, cutG_get e]
  · rw [List.getElem?_eq_none (by omega), List.getElem?_eq_none (by rw [cutG_length]; omega)]
theorem cutG_zero (l : List Int) : cutG l 0 = List.replicate l.length (-1) := by
  unfold cutG
  simp
theorem cutG_gap {l : List Int} {t o : Nat} (hto : t ≤ o) (hb : ∀ c ∈ l, -1 ≤ c) (h : ∀ (i : Nat) c, t ≤ i → i < o → l[i]? = some c → c < 0) : cutG l t = cutG l o := by
  refine cutG_ext (cutG_length _ _) fun i c hc => ?_
  rw [cutG_get hc]
  by_cases h1 : i < t
  · rw [if_pos h1, if_pos (by omega)]
  · rw [if_neg h1]
    by_cases h2 : i < o
    · rw [if_pos h2]
      have := h i c (by omega) h2 hc
      have := hb c (List.mem_of_getElem? hc)
      congr 1
      omega
    · rw [if_neg h2]
theorem cutG_set {l : List Int} {t : Nat} {c : Int} (h : l[t]? = some c) : (cutG l t).set t c = cutG l (t + 1) := by
  have ht := (List.getElem?_eq_some_iff.1 h).1
  refine cutG_ext (by rw [List.length_set, cutG_length]) fun i c' hc => ?_
  by_cases hi : i = t
  · subst hi
    rw [h] at hc
    injection hc with hc
    rw [List.getElem?_set_self (by rw [cutG_length]; exact ht), if_pos (by omega), hc]
  · rw [List.getElem?_set_ne (by omega), cutG_get hc]
    by_cases h1 : i < t
    · rw [if_pos h1, if_pos (by omega)]
    · rw [if_neg h1, if_neg (by omega)]
theorem cutG_all {l : List Int} {t : Nat} (hb : ∀ c ∈ l, -1 ≤ c) (h : ∀ (i : Nat) c, t ≤ i → l[i]? = some c → c < 0) : cutG l t = l := by
  refine (List.ext_getElem? fun i => ?_)
  by_cases hi : i < l.length
  · have e := List.getElem?_eq_getElem hi
    rw [cutG_get e, e]
    by_cases h1 : i < t
    · rw [if_pos h1]
    · rw [if_neg h1]
      have h3 := h i _ (by omega) e
      have h4 := hb l[i] (List.getElem_mem hi)
      congr 1
      omega
  · rw [List.getElem?_eq_none (by rw [cutG_length]; omega), List.getElem?_eq_none (by omega)]
theorem diff_add {n : Int} {o : Nat} (ho : o < 2147483648) : diffS (addS n o) n = o := by
  unfold diffS addS
  omega
end Go.Proofs.Ytdgfhcojmfgimaa
