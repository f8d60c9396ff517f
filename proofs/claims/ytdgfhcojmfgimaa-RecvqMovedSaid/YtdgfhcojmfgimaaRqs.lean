/-
  Pieces of what the other side sends: what came is its beginning; how far it comes. Plain mathematics. No condition.
-/
import Derived.Test.YtdgfhcojmfgimaaRqv
namespace Go.Proofs.Ytdgfhcojmfgimaa
open Go.RowKit

/-- of the stream s, from the number n on, p bytes came in order, of which r were read -/
structure Str (s : List UInt8) (n : Int) (r p : Nat) (x : Rx) : Prop where
  ok : OkX x
  rp : r ≤ p
  le : p ≤ s.length
  data : x.data = (s.take p).drop r
  next : x.next = if x.done = true then addS n (p + 1) else addS n p
  all : x.done = true → p = s.length
  got : x.done = false → ∀ (i : Nat) c, x.got[i]? = some c → 0 ≤ c → ∃ b, s[p + i]? = some b ∧ c = (b.toNat : Int)
  fin : x.done = false → x.fin = -1 ∨ x.fin = (s.length : Int) - p
theorem str_new (s : List UInt8) {n : Int} (h : U32 n) : Str s n 0 0 (newX n) where
  ok := new_ok h
  rp := Nat.le_refl _
  le := Nat.zero_le _
  data := rfl
  next := by
    show n = if (newX n).done = true then _ else _
    rw [if_neg (by intro h; cases h)]
    exact (add_zero' h).symm
  all := fun h => by cases h
  got := fun _ i c hc h0 => by
    have := List.eq_of_mem_replicate (List.mem_of_getElem? hc)
    omega
  fin := fun _ => .inl rfl
theorem str_len {s : List UInt8} {n : Int} {r p : Nat} {x : Rx} (h : Str s n r p x) : x.data.length = p - r := by
  rw [h.data, List.length_drop, List.length_take]
  have := h.le
  omega
/-- how many are read -/
theorem cut_le (x : Rx) (z : Int) : cutX x z ≤ x.data.length := by unfold cutX; omega
theorem str_read {s : List UInt8} {n : Int} {r p : Nat} {x : Rx} (h : Str s n r p x) (z : Int) : Str s n (r + cutX x z) p (readX x z) ∧ s.take r ++ x.data.take (cutX x z) = s.take (r + cutX x z) := by
  obtain ⟨k, hk⟩ : ∃ k, cutX x z = k := ⟨_, rfl⟩
  have hkl := cut_le x z
  have hl := str_len h
  have hrp := h.rp
  have hle := h.le
  rw [hk] at hkl ⊢
  refine ⟨⟨read_ok h.ok z, by omega, h.le, ?_, h.next, h.all, h.got, h.fin⟩, ?_⟩
  · show x.data.drop (cutX x z) = _
    rw [hk, h.data, List.drop_drop]
  · rw [h.data]
    refine List.ext_getElem? fun i => ?_
    by_cases hi : i < r
    · rw [List.getElem?_append_left (by rw [List.length_take]; omega), List.getElem?_take_of_lt hi, List.getElem?_take_of_lt (by omega)]
    · rw [List.getElem?_append_right (by rw [List.length_take]; omega), List.length_take, show min r s.length = r from by omega]
      by_cases h2 : i < r + k
      · rw [List.getElem?_take_of_lt (by omega), List.getElem?_drop, List.getElem?_take_of_lt (by omega), List.getElem?_take_of_lt h2]
        congr 1
        omega
      · rw [List.getElem?_eq_none (by rw [List.length_take]; omega), List.getElem?_eq_none (by rw [List.length_take]; omega)]
theorem diff_str (n : Int) {a p : Nat} (ha : a ≤ 600) (hp : p ≤ 600) : diffS (addS n a) (addS n p) = (a : Int) - p := by unfold diffS addS; omega
theorem str_accept {s : List UInt8} {n : Int} {r p a : Nat} {D : List UInt8} {x : Rx} (h : Str s n r p x) (hs : s.length ≤ 600) (ha : a + D.length ≤ s.length) (hD : ∀ (i : Nat), i < D.length → D[i]? = s[a + i]?) :
    ∃ p', p ≤ p' ∧ Str s n r p' (acceptX x (addS n a) D (decide (a + D.length = s.length))) ∧
      (x.done = false → a ≤ p → min (a + D.length) (p + (256 - (p - r))) ≤ p') ∧
      (x.done = false → a ≤ p → a + D.length = s.length → s.length - p ≤ 256 - (p - r) → (acceptX x (addS n a) D (decide (a + D.length = s.length))).done = true) := by
  have hok := accept_ok h.ok (addS n a) D (decide (a + D.length = s.length))
  by_cases hxd : x.done = true
  · have e : acceptX x (addS n a) D (decide (a + D.length = s.length)) = x := by unfold acceptX; rw [if_pos hxd]
    rw [e]
    exact ⟨p, Nat.le_refl _, h, fun h2 => (by rw [hxd] at h2; cases h2), fun h2 => (by rw [hxd] at h2; cases h2)⟩
  have hxd : x.done = false := by simpa using hxd
  have hle := h.le
  have hrp := h.rp
  have hlen := str_len h
  have hwin : winX x = 256 - ((p - r : Nat) : Int) := by unfold winX; rw [hlen]
  have hd256 := h.ok.data
  rw [hlen] at hd256
  have hxn := h.next
  rw [hxd, if_neg (by decide)] at hxn
  obtain ⟨e, he⟩ : ∃ e, decide (a + D.length = s.length) = e := ⟨_, rfl⟩
  rw [he] at hok ⊢
  have hdd := diff_str n (a := a) (p := p) (by omega) (by omega)
  obtain ⟨d, hd⟩ : ∃ d : Int, (a : Int) - p = d := ⟨_, rfl⟩
  rw [hd] at hdd
  obtain ⟨f, hf⟩ : ∃ f, finX x d D.length e = f := ⟨_, rfl⟩
  have hff : f = -1 ∨ f = (s.length : Int) - p := by
    rw [← hf]
    unfold finX
    split
    · rename_i hc
      have := of_decide_eq_true (he.trans hc.1)
      right
      omega
    · exact h.fin hxd
  obtain ⟨hfo, hfa⟩ := fin_ok h.ok d D.length e
  rw [hf] at hfo hfa
  obtain ⟨g, hg⟩ : ∃ g, layX x d D f = g := ⟨_, rfl⟩
  have hgl : g.length = 256 := by rw [← hg, lay_len, h.ok.got]
  have hin : ∀ (i : Nat) c, g[i]? = some c → 0 ≤ c → ∃ b, s[p + i]? = some b ∧ c = (b.toNat : Int) := fun i c hc h0 => by
    rw [← hg, lay_get] at hc
    obtain ⟨c0, h1, h2⟩ := Option.map_eq_some_iff.1 hc
    by_cases hc0 : 0 ≤ c0
    · rw [layI_keep hc0] at h2
      obtain ⟨b, h3, h4⟩ := h.got hxd i c0 h1 hc0
      exact ⟨b, h3, by omega⟩
    · unfold layI at h2
      split at h2
      · rename_i h3
        obtain ⟨_, h4, h5, _⟩ := h3
        have h6 := hD ((i : Int) - d).toNat (by omega)
        rw [show a + ((i : Int) - d).toNat = p + i from by omega] at h6
        cases hb : D[((i : Int) - d).toNat]? with
        | none => rw [hb] at h2; simp at h2; omega
        | some b => rw [hb] at h2; exact ⟨b, by rw [← h6, hb], h2.symm⟩
      · omega
  obtain ⟨k, hk⟩ : ∃ k, (frontL g).length = k := ⟨_, rfl⟩
  have hfw := front_win h.ok (d := d) (D := D) hfa
  rw [hg, hk] at hfw
  have hpk : p + k ≤ s.length := by
    rcases Nat.eq_zero_or_pos k with h0 | h0
    · omega
    · obtain ⟨c, h1, h2, _⟩ := front_get (l := g) (i := k - 1) (by omega)
      obtain ⟨b, h3, _⟩ := hin _ c h1 h2
      have := (List.getElem?_eq_some_iff.1 h3).1
      omega
  have hfr : ∀ (i : Nat), i < k → (frontL g)[i]? = s[p + i]? := fun i hi => by
    obtain ⟨c, h1, h2, h3⟩ := front_get (l := g) (i := i) (by omega)
    obtain ⟨b, h4, h5⟩ := hin _ c h1 h2
    rw [h3, h4, h5, byteOf_nat]
  have hge : a ≤ p → ∀ j : Nat, j ≤ a + D.length - p → (j : Int) ≤ winX x → j ≤ k := fun hap j hj hw => by
    rw [← hk]
    refine front_ge (by omega) fun i c hi hc => ?_
    rw [← hg, lay_get] at hc
    obtain ⟨c0, _, rfl⟩ := Option.map_eq_some_iff.1 hc
    exact layI_in ⟨by omega, by omega, by omega, by rcases hff with h1 | h1 <;> omega⟩
  have hacc : acceptX x (addS n a) D e = endX (takeX x g f) := by
    unfold acceptX
    rw [hxd, if_neg (by decide), hxn, hdd, hf, hg]
  have hdrop : ∀ (i : Nat) c, (g.drop k ++ List.replicate k (-1))[i]? = some c → 0 ≤ c → g[k + i]? = some c := fun i c hc h0 => by
    by_cases hi : i < (g.drop k).length
    · rw [List.getElem?_append_left hi, List.getElem?_drop] at hc
      exact hc
    · rw [List.getElem?_append_right (by omega)] at hc
      have := List.eq_of_mem_replicate (List.mem_of_getElem? hc)
      omega
  have hdata : x.data ++ frontL g = (s.take (p + k)).drop r := by
    rw [h.data]
    refine List.ext_getElem? fun i => ?_
    have e1 : ((s.take p).drop r).length = p - r := by rw [List.length_drop, List.length_take]; omega
    rw [List.getElem?_drop]
    by_cases hi : i < p - r
    · rw [List.getElem?_append_left (by rw [e1]; exact hi), List.getElem?_drop, List.getElem?_take_of_lt (by omega), List.getElem?_take_of_lt (by omega)]
    · rw [List.getElem?_append_right (by rw [e1]; omega), e1]
      by_cases h2 : i - (p - r) < k
      · rw [hfr _ h2, List.getElem?_take_of_lt (by omega)]
        congr 1
        omega
      · rw [List.getElem?_eq_none (by omega), List.getElem?_eq_none (by rw [List.length_take]; omega)]
  rw [hacc] at hok ⊢
  -- the end
  have hfinal : x.done = false → a ≤ p → a + D.length = s.length → s.length - p ≤ 256 - (p - r) → f = (s.length : Int) - p := fun _ hap hT hw => by
    rcases hff with h1 | h1
    · exfalso
      have hxf : x.fin = -1 := by
        rcases h.fin hxd with h2 | h2
        · exact h2
        · rw [← hf] at h1
          unfold finX at h1
          split at h1 <;> omega
      have hbe : beyondX x.got (d + D.length) = false := by
        cases hb : beyondX x.got (d + D.length) with
        | false => rfl
        | true =>
          obtain ⟨i, c, h2, h3, h4⟩ := beyond_ex hb
          obtain ⟨b, h5, _⟩ := h.got hxd i c h3 h4
          have := (List.getElem?_eq_some_iff.1 h5).1
          omega
      rw [← hf] at h1
      unfold finX at h1
      rw [if_pos ⟨by rw [← he]; exact decide_eq_true hT, by omega, by omega, by rw [hwin]; omega, hbe⟩] at h1
      omega
    · exact h1
  by_cases htk : frontL g ≠ [] ∨ runsN g ≤ 8
  · obtain ⟨f2, hf2⟩ : ∃ f2, (if 0 ≤ f then f - (k : Int) else f) = f2 := ⟨_, rfl⟩
    have hf3 : f = -1 ∧ f2 = -1 ∨ f = (s.length : Int) - p ∧ f2 = (s.length : Int) - p - k := by
      rcases hff with h1 | h1
      · left
        rw [if_neg (by omega)] at hf2
        omega
      · right
        rw [if_pos (by omega)] at hf2
        omega
    have ht : takeX x g f = { x with next := addS x.next k, data := (s.take (p + k)).drop r, got := g.drop k ++ List.replicate k (-1), fin := f2 } := by
      unfold takeX
      rw [if_pos htk, hk, hdata, hf2]
    rw [ht] at hok ⊢
    refine ⟨p + k, by omega, ?_, fun _ hap => ?_, fun h0 hap hT hw => ?_⟩
    · unfold endX at hok ⊢
      split at hok
      · rename_i h0
        rw [if_pos h0]
        change f2 = 0 at h0
        have hpl : p + k = s.length := by omega
        refine ⟨hok, by omega, hpk, rfl, ?_, fun _ => hpl, fun h1 => (by cases h1), fun h1 => (by cases h1)⟩
        show addS (addS x.next k) 1 = if true = true then _ else _
        rw [if_pos rfl, hxn, add_add, add_add]
        congr 1
      · rename_i h0
        rw [if_neg h0]
        change ¬ f2 = 0 at h0
        refine ⟨hok, by omega, hpk, rfl, ?_, fun h1 => ?_, fun _ i c hc h1 => ?_, fun _ => ?_⟩
        · show addS x.next k = if x.done = true then _ else _
          rw [hxd, if_neg (by decide), hxn, add_add]
          congr 1
        · have h1 : x.done = true := h1
          rw [hxd] at h1
          cases h1
        · obtain ⟨b, h2, h3⟩ := hin _ c (hdrop i c hc h1) h1
          exact ⟨b, by rw [← h2]; congr 1; omega, h3⟩
        · show f2 = -1 ∨ f2 = _
          omega
    · by_cases hT : a + D.length ≤ p
      · omega
      · have := hge hap (min (a + D.length - p) (256 - (p - r))) (by omega) (by rw [hwin]; omega)
        omega
    · have h1 := hfinal h0 hap hT hw
      have h2 := hge hap (s.length - p) (by omega) (by rw [hwin]; omega)
      unfold endX
      rw [if_pos (by show f2 = 0; omega)]
  · have hk0 : k = 0 := by
      rw [← hk]
      have : frontL g = [] := Decidable.not_not.1 fun h1 => htk (.inl h1)
      rw [this]
      rfl
    subst hk0
    have ht : takeX x g f = { x with fin := f } := by
      unfold takeX
      rw [if_neg htk]
    rw [ht] at hok ⊢
    refine ⟨p, Nat.le_refl _, ?_, fun _ hap => ?_, fun h0 hap hT hw => ?_⟩
    · unfold endX at hok ⊢
      split at hok
      · rename_i h0
        rw [if_pos h0]
        change f = 0 at h0
        have hpl : p = s.length := by rcases hff with h1 | h1 <;> omega
        refine ⟨hok, hrp, hle, h.data, ?_, fun _ => hpl, fun h1 => (by cases h1), fun h1 => (by cases h1)⟩
        show addS x.next 1 = if true = true then _ else _
        rw [if_pos rfl, hxn, add_add]
      · rename_i h0
        rw [if_neg h0]
        refine ⟨hok, hrp, hle, h.data, ?_, fun h1 => ?_, fun _ => h.got hxd, fun _ => hff⟩
        · show x.next = if x.done = true then _ else _
          rw [hxd, if_neg (by decide), hxn]
        · have h1 : x.done = true := h1
          rw [hxd] at h1
          cases h1
    · by_cases hT : a + D.length ≤ p
      · omega
      · have := hge hap (min (a + D.length - p) (256 - (p - r))) (by omega) (by rw [hwin]; omega)
        omega
    · have h1 := hfinal h0 hap hT hw
      have h2 := hge hap (s.length - p) (by omega) (by rw [hwin]; omega)
      unfold endX
      rw [if_pos (by show f = 0; omega)]
end Go.Proofs.Ytdgfhcojmfgimaa
