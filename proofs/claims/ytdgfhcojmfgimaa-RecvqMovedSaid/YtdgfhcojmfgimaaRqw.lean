/-
  A piece that comes twice is like one that comes once. Plain mathematics. No condition.
-/
import Derived.Test.YtdgfhcojmfgimaaRqm
namespace Go.Proofs.Ytdgfhcojmfgimaa
open Go.RowKit

theorem layI_keep {x : Rx} {d : Int} {D : List UInt8} {f : Int} {i : Nat} {c : Int} (h : 0 ≤ c) : layI x d D f i c = c := by
  unfold layI
  rw [if_neg (by omega)]
/-- how many come to the front lie in the window, and ahead of the end -/
theorem front_win {x : Rx} (h : OkX x) {d : Int} {D : List UInt8} {f : Int} (ha : 0 ≤ f → ∀ (i : Nat) c, x.got[i]? = some c → 0 ≤ c → (i : Int) < f) : ((frontL (layX x d D f)).length : Int) ≤ winX x ∧ (0 ≤ f → ((frontL (layX x d D f)).length : Int) ≤ f) := by
  have hlen : (layX x d D f).length = 256 := by rw [lay_len, h.got]
  obtain ⟨k, hk⟩ : ∃ k, (frontL (layX x d D f)).length = k := ⟨_, rfl⟩
  have hk256 : k ≤ 256 := by have := front_len (layX x d D f); omega
  rw [hk]
  rcases Nat.eq_zero_or_pos k with h0 | h0
  · have := h.data
    unfold winX
    omega
  · have e := List.getElem?_eq_getElem (l := layX x d D f) (i := k - 1) (by omega)
    have h1 := front_at (l := layX x d D f) (i := k - 1) (by omega) e
    rw [lay_get] at e
    obtain ⟨c0, h2, h3⟩ := Option.map_eq_some_iff.1 e
    rw [← h3] at h1
    rcases layI_cases x d D f (k - 1) c0 with h4 | h4
    · rw [h4] at h1
      have h5 := h.win _ _ h2 h1
      refine ⟨by omega, fun hf => ?_⟩
      have h6 := ha hf _ _ h2 h1
      omega
    · refine ⟨by omega, fun hf => ?_⟩
      rcases h4.2.2.2.2 with h5 | h5 <;> omega
theorem diff_shift (a n : Int) (k : Nat) (hk : k ≤ 256) : diffS a (addS n k) = diffS a n - k ∨ diffS a (addS n k) = diffS a n - k + 4294967296 := by
  unfold diffS addS
  omega
theorem beyond_true {l : List Int} {e : Int} {i : Nat} {c : Int} (hi : e ≤ i) (hc : l[i]? = some c) (h0 : 0 ≤ c) : beyondX l e = true := by
  cases hb : beyondX l e with
  | true => rfl
  | false => exact absurd (beyond_false hb hi hc) (by omega)
theorem beyond_ex {l : List Int} {e : Int} (h : beyondX l e = true) : ∃ (i : Nat) (c : Int), e ≤ i ∧ l[i]? = some c ∧ 0 ≤ c := by
  unfold beyondX at h
  rw [List.any_eq_true] at h
  obtain ⟨c, hc, h0⟩ := h
  obtain ⟨j, hj⟩ := List.getElem?_of_mem hc
  rw [List.getElem?_drop] at hj
  exact ⟨_, c, by omega, hj, by simpa using h0⟩
theorem add_zero' {n : Int} (h : U32 n) : addS n 0 = n := by
  have := h.1
  have := h.2
  unfold addS
  omega
/-- a state to which a piece brings nothing -/
theorem accept_same {y : Rx} (h : OkX y) {a : Int} {D : List UInt8} {e : Bool} (hf : finX y (diffS a y.next) D.length e = y.fin) (hl : layX y (diffS a y.next) D y.fin = y.got) : acceptX y a D e = y := by
  unfold acceptX
  split
  · rfl
  · rename_i hd
    rw [hf, hl]
    have h0 : frontL y.got = [] := by
      have := front_len y.got
      have hg := h.got
      cases hk : frontL y.got with
      | nil => rfl
      | cons b r =>
        have e0 := List.getElem?_eq_getElem (l := y.got) (i := 0) (by omega)
        have h1 := front_at (l := y.got) (i := 0) (by rw [hk]; simp) e0
        have h2 := h.front _ e0
        omega
    have ht : takeX y y.got y.fin = y := by
      unfold takeX
      rw [if_pos (.inr h.runs), h0]
      obtain ⟨n, d, g, f, b⟩ := y
      have hn := add_zero' h.next
      simp only [List.length_nil, List.append_nil, List.drop_zero, List.replicate_zero] at hn ⊢
      rw [show addS n ((0 : Nat) : Int) = n from hn]
      simp
    rw [ht]
    unfold endX
    rw [if_neg fun h0 => hd (h.done.2 h0)]
theorem accept_twice {x : Rx} (h : OkX x) (a : Int) (D : List UInt8) (e : Bool) (hD : D.length ≤ 1000) : acceptX (acceptX x a D e) a D e = acceptX x a D e := by
  obtain ⟨y, hy⟩ : ∃ y, acceptX x a D e = y := ⟨_, rfl⟩
  have hoy : OkX y := by rw [← hy]; exact accept_ok h a D e
  rw [hy]
  by_cases hyd : y.done = true
  · unfold acceptX
    rw [if_pos hyd]
  unfold acceptX at hy
  by_cases hxd : x.done = true
  · rw [if_pos hxd] at hy
    rw [← hy] at hyd
    exact absurd hxd hyd
  rw [if_neg hxd] at hy
  obtain ⟨d, hd⟩ : ∃ d, diffS a x.next = d := ⟨_, rfl⟩
  obtain ⟨f, hf⟩ : ∃ f, finX x d D.length e = f := ⟨_, rfl⟩
  obtain ⟨hfo, hfa⟩ := fin_ok h d D.length e
  rw [hf] at hfo hfa
  rw [hd, hf] at hy
  have hend : takeX x (layX x d D f) f = y := by
    unfold endX at hy
    split at hy
    · rw [← hy] at hyd
      exact absurd rfl hyd
    · exact hy
  clear hy
  have hdl := diff_lo a x.next
  rw [hd] at hdl
  unfold takeX at hend
  split at hend
  · -- the piece was taken
    obtain ⟨k, hk⟩ : ∃ k, (frontL (layX x d D f)).length = k := ⟨_, rfl⟩
    have hfw := front_win h (d := d) (D := D) hfa
    rw [hk] at hend hfw
    have hk256 : k ≤ 256 := by have := front_len (layX x d D f); rw [lay_len, h.got] at this; omega
    have hyn : y.next = addS x.next k := by rw [← hend]
    have hyg : y.got = (layX x d D f).drop k ++ List.replicate k (-1) := by rw [← hend]
    have hyf : y.fin = if 0 ≤ f then f - k else f := by rw [← hend]
    have hyw : winX y = winX x - k := by
      rw [← hend]
      unfold winX
      show 256 - ((x.data ++ frontL _).length : Int) = _
      rw [List.length_append, hk]
      omega
    have hdd := diff_shift a x.next k hk256
    rw [hd, ← hyn] at hdd
    obtain ⟨d', hd'⟩ : ∃ d', diffS a y.next = d' := ⟨_, rfl⟩
    rw [hd'] at hdd
    have hxw : winX x ≤ 256 := by unfold winX; omega
    have hget : ∀ (i : Nat) c, k + i < 256 → x.got[k + i]? = some c → y.got[i]? = some (layI x d D f (k + i) c) := fun i c hi hc => by
      rw [hyg, List.getElem?_append_left (by rw [List.length_drop, lay_len, h.got]; omega), List.getElem?_drop, lay_get, hc]
      rfl
    have hfin : finX y d' D.length e = y.fin := by
      unfold finX
      split
      · rename_i hc
        obtain ⟨he, h1, h2, h3, h4⟩ := hc
        exfalso
        have hf0 : f < 0 := by
          by_cases hff : 0 ≤ f
          · have := hfw.2 hff
            rw [hyf, if_pos hff] at h1
            omega
          · omega
        have hdk : d' = d - k := by
          rcases hdd with h5 | h5
          · exact h5
          · omega
        have hxf : x.fin < 0 ∧ beyondX x.got (d + D.length) = true := by
          unfold finX at hf
          split at hf
          · omega
          · rename_i hn
            refine ⟨by omega, ?_⟩
            cases hb : beyondX x.got (d + D.length) with
            | true => rfl
            | false => exact absurd ⟨he, by omega, by omega, by omega, hb⟩ hn
        obtain ⟨i, c, hi, hc, h0⟩ := beyond_ex hxf.2
        have hi256 : i < 256 := by rw [← h.got]; exact (List.getElem?_eq_some_iff.1 hc).1
        have hik : k + (i - k) = i := by omega
        have := hget (i - k) c (by omega) (by rw [hik]; exact hc)
        rw [layI_keep h0] at this
        have := beyond_true (e := d' + D.length) (by omega) this h0
        rw [this] at h4
        cases h4
      · rfl
    refine accept_same hoy (by rw [hd']; exact hfin) ?_
    rw [hd']
    refine List.ext_getElem? fun i => ?_
    rw [lay_get]
    cases hc : y.got[i]? with
    | none => rfl
    | some c =>
      show some (layI y d' D y.fin i c) = some c
      rcases layI_cases y d' D y.fin i c with h1 | h1
      · rw [h1]
      · exfalso
        obtain ⟨h2, h3, h4, h5, h6⟩ := h1
        have hdk : d' = d - k := by
          rcases hdd with h5 | h5
          · exact h5
          · have := (List.getElem?_eq_some_iff.1 hc).1
            rw [hoy.got] at this
            omega
        have hki : k + i < 256 := by omega
        have e0 := List.getElem?_eq_getElem (l := x.got) (i := k + i) (by rw [h.got]; exact hki)
        obtain ⟨c0, hc0⟩ : ∃ c0, x.got[k + i]? = some c0 := ⟨_, e0⟩
        have := hget i c0 hki hc0
        rw [hc] at this
        injection this with this
        have hin := layI_in (x := x) (d := d) (D := D) (f := f) (i := k + i) (c := c0) ⟨by omega, by omega, by omega, by
          rw [hyf] at h6
          split at h6 <;> omega⟩
        omega
  · -- it was forgotten
    rename_i hc
    have hyn : y.next = x.next := by rw [← hend]
    have hyf : y.fin = f := by rw [← hend]
    have hyg : y.got = x.got := by rw [← hend]
    have hyw : winX y = winX x := by rw [← hend]; rfl
    have hf2 : finX y d D.length e = f := by
      unfold finX
      rw [hyf, hyg, hyw]
      split
      · rename_i hcc
        unfold finX at hf
        split at hf
        · exact hf
        · rename_i hn
          exact absurd ⟨hcc.1, by omega, hcc.2.2⟩ hn
      · rfl
    have hl2 : layX y d D f = layX x d D f := by
      unfold layX layI
      rw [hyg, hyw]
    unfold acceptX
    rw [if_neg hyd, hyn, hd, hf2, hl2]
    unfold takeX
    rw [if_neg hc]
    have : ({ y with fin := f } : Rx) = y := by rw [← hyf]
    rw [this]
    unfold endX
    rw [if_neg fun h0 => hyd (hoy.done.2 h0)]
end Go.Proofs.Ytdgfhcojmfgimaa
