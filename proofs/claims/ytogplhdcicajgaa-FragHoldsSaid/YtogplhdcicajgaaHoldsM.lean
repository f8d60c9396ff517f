/-
  What the law FragHolds needs of the holes: as many as there may be. Plain mathematics, no program's walk, no condition.
-/
import Derived.Test.YtogplhdcicajgaaPlan
namespace Go.Proofs.Ytogplhdcicajgaa
open Go.RowKit

def Z4 : List UInt8 := [0, 0, 0, 0]
def zer : List UInt8 := List.replicate 176 0
theorem zer_len : zer.length = 176 := List.length_replicate
def pdH (id : Nat) (data : List UInt8) : Pk := ⟨id, false, 0, 0, 0, Z4, Z4, zer ++ (1 :: data)⟩
def p0H (id : Nat) : Pk := ⟨id, true, 0, 0, 0, Z4, Z4, zer⟩
def p1H (data : List UInt8) : Pk := ⟨3, false, 176, 0, 0, Z4, Z4, 1 :: data⟩
def HK (id now : Nat) : Hk := ⟨Z4, Z4, 0, id, 0, now, -1, [⟨0, zer⟩]⟩
theorem pd_len (id : Nat) (data : List UInt8) : (pdH id data).data.length = 177 + data.length := by
  unfold pdH
  simp only [List.length_append, zer_len, List.length_cons]
  omega
theorem sg_zer (id : Nat) (data : List UInt8) : sg (pdH id data).data 0 176 = zer := by
  unfold sg pdH
  simp only [List.drop_zero, Nat.sub_zero]
  exact List.take_left' zer_len
theorem p0_is (id : Nat) (data : List UInt8) : IsPc (pdH id data) (p0H id) 0 176 := by
  have := pd_len id data
  refine ⟨rfl, (sg_zer id data).symm, by omega, by omega, ?_, rfl, rfl, rfl, rfl, rfl⟩
  show true = decide _
  exact (decide_eq_true (by omega)).symm
theorem p1_is (data : List UInt8) : IsPc (pdH 3 data) (p1H data) 176 (177 + data.length) := by
  have := pd_len 3 data
  refine ⟨rfl, ?_, by omega, by omega, ?_, rfl, rfl, rfl, rfl, rfl⟩
  · unfold sg pdH p1H
    simp only
    rw [List.drop_left' zer_len, List.take_of_length_le (by simp; omega)]
  · show false = decide _
    exact (decide_eq_false (by omega)).symm
theorem p0_got (id : Nat) : gotP (p0H id) [] = [⟨0, zer⟩] := by
  rw [got_none (p0_is id []), PP, sg_zer]
  rfl
theorem p0_lay (id now : Nat) : layP (beginP (p0H id) now) (p0H id) = HK id now := by
  have h : (layP (beginP (p0H id) now) (p0H id)).got = [⟨0, zer⟩] := p0_got id
  have h2 : layP (beginP (p0H id) now) (p0H id) = { (beginP (p0H id) now) with got := (layP (beginP (p0H id) now) (p0H id)).got } := rfl
  rw [h2, h]
  rfl
theorem p0_conds (id : Nat) : ¬ ((p0H id).off < 0 ∨ 1000 < (p0H id).off ∨ 1000 < endP (p0H id)) ∧ ¬ ((p0H id).off = 0 ∧ (p0H id).more = false) ∧ ¬ formedB (p0H id) = false := by
  have := pd_len id []
  exact conds (p0_is id []) (by rw [this]; decide) (by decide) (fun _ => by decide) (by rw [this]; decide)
theorem hk_open (id now : Nat) : wholeB (HK id now) = false := by
  unfold wholeB HK
  simp only [zer_len]
  decide
theorem no_one {l : List Hk} {id : Nat} (h : ∀ x ∈ l, x.id ≠ id) : l.findIdx? (belongsB (p0H id)) = none := by
  rw [List.findIdx?_eq_none_iff]
  intro x hx
  unfold belongsB
  refine decide_eq_false fun hh => h x hx hh.2.2.2.symm
theorem add_append (l : List Hk) (id now : Nat) (ha : ageP l now = l) (hl : l.length < 8) (hid : ∀ x ∈ l, x.id ≠ id) : addP l (p0H id) now = (l ++ [HK id now], Pk.zero, false, 0) := by
  obtain ⟨c1, c2, c3⟩ := p0_conds id
  unfold addP
  rw [if_neg c1, if_neg c2, if_neg c3, ha, no_one hid]
  show (if 8 ≤ l.length then _ else addAt (l ++ [beginP (p0H id) now]) l.length (beginP (p0H id) now) (p0H id)) = _
  rw [if_neg (by omega)]
  unfold addAt
  have hf : fitsB (p0H id) (beginP (p0H id) now) = true := by unfold fitsB beginP p0H; simp
  rw [hf, p0_lay, hk_open]
  simp
theorem add_full (l : List Hk) (id now : Nat) (ha : ageP l now = l) (hl : 8 ≤ l.length) (hid : ∀ x ∈ l, x.id ≠ id) : addP l (p0H id) now = (l, Pk.zero, false, 5) := by
  obtain ⟨c1, c2, c3⟩ := p0_conds id
  unfold addP
  rw [if_neg c1, if_neg c2, if_neg c3, ha, no_one hid]
  show (if 8 ≤ l.length then _ else _) = _
  rw [if_pos hl]
def stH (i : Nat) : List Hk := (List.range i).map fun j => HK j 5
theorem stH_len (i : Nat) : (stH i).length = i := by simp [stH]
theorem stH_mem {i : Nat} {x : Hk} (h : x ∈ stH i) : x.since = 5 ∧ x.id < i ∧ x.got.length = 1 := by
  simp only [stH, List.mem_map, List.mem_range] at h
  obtain ⟨j, hj, rfl⟩ := h
  exact ⟨rfl, hj, rfl⟩
theorem stH_age (i now : Nat) (h : now < 35) : ageP (stH i) now = stH i := by
  unfold ageP
  rw [List.filter_eq_self]
  intro x hx
  have := (stH_mem hx).1
  unfold oldB
  rw [this]
  simp
  omega
theorem holds_new (i : Nat) (hi : i < 8) : addP (stH i) (p0H i) 5 = (stH (i + 1), Pk.zero, false, 0) := by
  rw [add_append _ _ _ (stH_age _ _ (by decide)) (by rw [stH_len]; exact hi) (fun x hx => Nat.ne_of_lt (stH_mem hx).2.1)]
  simp [stH, List.range_succ]
theorem holds_full : addP (stH 8) (p0H 8) 5 = (stH 8, Pk.zero, false, 5) :=
  add_full _ _ _ (stH_age _ _ (by decide)) (by rw [stH_len]; exact Nat.le_refl _) (fun x hx => Nat.ne_of_lt (stH_mem hx).2.1)
theorem holds_old : addP (stH 8) (p0H 99) 35 = ([HK 99 35], Pk.zero, false, 0) := by
  have ha : ageP (stH 8) 35 = [] := by
    unfold ageP
    rw [List.filter_eq_nil_iff]
    intro x hx
    have := (stH_mem hx).1
    unfold oldB
    rw [this]
    decide
  have h := add_append [] 99 35 rfl (by decide) (fun x hx => by cases hx)
  obtain ⟨c1, c2, c3⟩ := p0_conds 99
  unfold addP at h ⊢
  rw [if_neg c1, if_neg c2, if_neg c3] at h ⊢
  rw [ha]
  exact h
theorem hh_is (data : List UInt8) : HK 3 5 = HH (pdH 3 data) [PP (pdH 3 data).data 0 176] (-1) := by
  unfold HH PP
  rw [sg_zer]
  rfl
theorem p1_conds (data : List UInt8) (hd : data.length ≤ 200) : ¬ ((p1H data).off < 0 ∨ 1000 < (p1H data).off ∨ 1000 < endP (p1H data)) ∧ ¬ ((p1H data).off = 0 ∧ (p1H data).more = false) ∧ ¬ formedB (p1H data) = false := by
  have := pd_len 3 data
  exact conds (p1_is data) (by omega) (by decide) (fun h => by omega) (by omega)
def seven : List Hk := [HK 0 5, HK 1 5, HK 2 5, HK 4 5, HK 5 5, HK 6 5, HK 7 5]
theorem holds_whole (data : List UInt8) (hd : data.length ≤ 200) : addP (stH 8) (p1H data) 6 = (seven, pdH 3 data, true, 0) := by
  have hl := pd_len 3 data
  obtain ⟨c1, c2, c3⟩ := p1_conds data hd
  unfold addP
  rw [if_neg c1, if_neg c2, if_neg c3, stH_age _ _ (by decide)]
  have hb : ∀ j, belongsB (p1H data) (HK j 5) = decide (3 = j) := fun j => by
    unfold belongsB p1H HK
    simp
  have hf : (stH 8).findIdx? (belongsB (p1H data)) = some 3 := by
    show ([HK 0 5, HK 1 5, HK 2 5, HK 3 5, HK 4 5, HK 5 5, HK 6 5, HK 7 5] : List Hk).findIdx? _ = _
    simp [List.findIdx?_cons, hb]
  rw [hf]
  show addAt (stH 8) 3 (HK 3 5) (p1H data) = _
  unfold addAt
  rw [hh_is data, fit_last (p1_is data) 0 176 (by omega) (by omega) (by omega), lay_is (p1_is data), got_touch (p1_is data) 0 176 (by omega) (by omega) (by omega) (by omega), if_neg (show ¬ 177 + data.length < (pdH 3 data).data.length by omega), Nat.min_eq_left (by omega), Nat.max_eq_right (by omega), ← hl]
  have hs := step_whole (p := pdH 3 data) rfl rfl
  unfold stepR at hs
  split at hs
  · rename_i hw
    rw [hw]
    injection hs with _ h2
    injection h2 with h3 _
    simp only [if_true]
    rw [h3]
    rfl
  · injection hs with h1 _
    cases h1
theorem seven_mem {x : Hk} (h : x ∈ seven) : x.since = 5 ∧ x.id < 8 ∧ x.got.length = 1 := by
  simp only [seven, List.mem_cons, List.not_mem_nil, or_false] at h
  rcases h with rfl | rfl | rfl | rfl | rfl | rfl | rfl <;> exact ⟨rfl, by decide, rfl⟩
theorem holds_again : addP seven (p0H 99) 6 = (seven ++ [HK 99 6], Pk.zero, false, 0) := by
  refine add_append _ _ _ ?_ (by decide) (fun x hx => ?_)
  · unfold ageP
    rw [List.filter_eq_self]
    intro x hx
    have := (seven_mem hx).1
    unfold oldB
    rw [this]
    decide
  · have := (seven_mem hx).2.1
    omega
theorem p0_ok (id : Nat) : 0 ≤ (p0H id).off ∧ endP (p0H id) ≤ 1000 ∧ (((p0H id).off = 0 ∧ (p0H id).more = false) ∨ formedB (p0H id) = true) := by
  obtain ⟨c1, c2, c3⟩ := p0_conds id
  exact ⟨by omega, by omega, .inr (by simpa using c3)⟩
theorem p1_ok (data : List UInt8) (hd : data.length ≤ 200) : 0 ≤ (p1H data).off ∧ endP (p1H data) ≤ 1000 ∧ (((p1H data).off = 0 ∧ (p1H data).more = false) ∨ formedB (p1H data) = true) := by
  obtain ⟨c1, c2, c3⟩ := p1_conds data hd
  exact ⟨by omega, by omega, .inr (by simpa using c3)⟩
end Go.Proofs.Ytogplhdcicajgaa
