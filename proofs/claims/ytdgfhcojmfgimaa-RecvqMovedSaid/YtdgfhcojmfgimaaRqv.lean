/-
  From another number on all is the same, but the numbers; a whole that comes at once, with its end. Plain mathematics. No condition.
-/
import Derived.Test.YtdgfhcojmfgimaaRqw
namespace Go.Proofs.Ytdgfhcojmfgimaa
open Go.RowKit

def mvX (t : Int) (x : Rx) : Rx := { x with next := addS x.next t }
theorem diff_moved (a n t : Int) : diffS (addS a t) (addS n t) = diffS a n := by unfold diffS addS; omega
theorem add_swap (n t k : Int) : addS (addS n t) k = addS (addS n k) t := by unfold addS; omega
theorem add_add (n t k : Int) : addS (addS n t) k = addS n (t + k) := by unfold addS; omega
theorem add_back {a b : Int} (h : U32 b) : addS a (b - a) = b := by
  have := h.1
  have := h.2
  unfold addS
  omega
theorem new_moved (n t : Int) : mvX t (newX n) = newX (addS n t) := rfl
theorem read_moved (x : Rx) (t z : Int) : readX (mvX t x) z = mvX t (readX x z) := rfl
theorem mv_ok {x : Rx} (h : OkX x) (t : Int) : OkX (mvX t x) := ⟨⟨addS_ge _ _, addS_le _ _⟩, h.data, h.got, h.bytes, h.win, h.fin, h.ahead, h.runs, h.front, h.done⟩
theorem take_moved (x : Rx) (g : List Int) (f t : Int) : takeX (mvX t x) g f = mvX t (takeX x g f) := by
  unfold takeX mvX
  split
  · simp only
    rw [add_swap]
  · rfl
theorem end_moved (x : Rx) (t : Int) : endX (mvX t x) = mvX t (endX x) := by
  unfold endX mvX
  simp only
  split
  · simp only
    rw [add_swap]
  · rfl
theorem accept_moved (x : Rx) (a t : Int) (D : List UInt8) (e : Bool) : acceptX (mvX t x) (addS a t) D e = mvX t (acceptX x a D e) := by
  unfold acceptX
  have h1 : (mvX t x).done = x.done := rfl
  rw [h1]
  split
  · rfl
  · have h2 : diffS (addS a t) (mvX t x).next = diffS a x.next := diff_moved _ _ _
    have h3 : finX (mvX t x) (diffS a x.next) D.length e = finX x (diffS a x.next) D.length e := rfl
    have h4 : ∀ f, layX (mvX t x) (diffS a x.next) D f = layX x (diffS a x.next) D f := fun _ => rfl
    rw [h2, h3, h4, take_moved, end_moved]

/-! ### a whole at once -/
theorem front_get {l : List Int} {i : Nat} (hi : i < (frontL l).length) : ∃ c, l[i]? = some c ∧ 0 ≤ c ∧ (frontL l)[i]? = some (byteOf c) := by
  have hl := front_len l
  obtain ⟨c, e⟩ : ∃ c, l[i]? = some c := ⟨_, List.getElem?_eq_getElem (by omega)⟩
  refine ⟨c, e, front_at hi e, ?_⟩
  unfold frontL at hi ⊢
  rw [List.length_map] at hi
  have h1 := List.takeWhile_append_dropWhile (p := fun z => decide ((0 : Int) ≤ z)) (l := l)
  rw [List.getElem?_map]
  have h2 : (l.takeWhile (fun z => decide ((0 : Int) ≤ z)))[i]? = some c := by
    rw [← e]
    conv => rhs; rw [← h1]
    rw [List.getElem?_append_left hi]
  rw [h2]
  rfl
theorem byteOf_nat (b : UInt8) : byteOf (b.toNat : Int) = b := by
  unfold byteOf
  rw [Int.toNat_natCast]
  exact UInt8.ofNat_toNat
theorem runs_none : ∀ (l : List Int) (i : Nat), (∀ c ∈ l, c < 0) → runsL i l = []
  | [], _, _ => rfl
  | c :: l, i, h => by
    unfold runsL
    rw [if_pos (h c (List.mem_cons_self ..))]
    exact runs_none l (i + 1) fun x hx => h x (List.mem_cons_of_mem _ hx)
theorem diff_self (n : Int) : diffS n n = 0 := by unfold diffS; omega
theorem accept_whole {n : Int} (hn : U32 n) (D : List UInt8) (hD : D.length ≤ 256) : (acceptX (newX n) n D true).done = true ∧ (acceptX (newX n) n D true).data = D ∧ (∀ c ∈ (acceptX (newX n) n D true).got, c < 0) := by
  have hok := new_ok hn
  obtain ⟨x, hx⟩ : ∃ x, newX n = x := ⟨_, rfl⟩
  have hneg : ∀ c ∈ x.got, c < 0 := by
    rw [← hx]
    intro c hc
    have := List.eq_of_mem_replicate hc
    omega
  have hxd : x.done = false := by rw [← hx]; rfl
  have hxn : x.next = n := by rw [← hx]; rfl
  have hxf : x.fin = -1 := by rw [← hx]; rfl
  have hxw : winX x = 256 := by rw [← hx]; rfl
  have hxa : x.data = [] := by rw [← hx]; rfl
  rw [hx] at hok ⊢
  clear hx
  have hbe : ∀ e, beyondX x.got e = false := fun e => by
    unfold beyondX
    rw [List.any_eq_false]
    intro c hc
    have := hneg c (List.mem_of_mem_drop hc)
    simp
    omega
  have hf : finX x 0 D.length true = D.length := by
    unfold finX
    rw [if_pos ⟨rfl, by omega, by omega, by rw [hxw]; omega, hbe _⟩]
    omega
  obtain ⟨g, hg⟩ : ∃ g, layX x 0 D D.length = g := ⟨_, rfl⟩
  have hgl : g.length = 256 := by rw [← hg, lay_len, hok.got]
  have hin : ∀ (i : Nat) c, g[i]? = some c → 0 ≤ c → ∃ b, D[i]? = some b ∧ c = (b.toNat : Int) := fun i c hc h0 => by
    rw [← hg, lay_get] at hc
    obtain ⟨c0, h1, h2⟩ := Option.map_eq_some_iff.1 hc
    have hc0 := hneg c0 (List.mem_of_getElem? h1)
    unfold layI at h2
    split at h2
    · rename_i h3
      rw [show ((i : Int) - 0).toNat = i from by omega] at h2
      cases hb : D[i]? with
      | none => rw [hb] at h2; simp at h2; omega
      | some b => rw [hb] at h2; exact ⟨b, rfl, h2.symm⟩
    · omega
  have hk : (frontL g).length = D.length := by
    have h1 : D.length ≤ (frontL g).length := front_ge (by omega) fun i c hi hc => by
      rw [← hg, lay_get] at hc
      obtain ⟨c0, h1, rfl⟩ := Option.map_eq_some_iff.1 hc
      exact layI_in ⟨by omega, by omega, by rw [hxw]; omega, .inr (by omega)⟩
    rcases Nat.lt_or_ge D.length (frontL g).length with h2 | h2
    · obtain ⟨c, h3, h4, _⟩ := front_get h2
      obtain ⟨b, h5, _⟩ := hin _ c h3 h4
      rw [List.getElem?_eq_none (Nat.le_refl _)] at h5
      cases h5
    · omega
  have hfr : frontL g = D := by
    refine List.ext_getElem? fun i => ?_
    rcases Nat.lt_or_ge i D.length with hi | hi
    · obtain ⟨c, h3, h4, h5⟩ := front_get (l := g) (i := i) (by omega)
      obtain ⟨b, h6, h7⟩ := hin _ c h3 h4
      rw [h5, h6, h7, byteOf_nat]
    · rw [List.getElem?_eq_none (by omega), List.getElem?_eq_none hi]
  have hdr : ∀ c ∈ g.drop D.length ++ List.replicate D.length (-1), c < 0 := fun c hc => by
    rcases List.mem_append.1 hc with hc | hc
    · obtain ⟨i, hi⟩ := List.getElem?_of_mem hc
      rw [List.getElem?_drop] at hi
      by_cases h0 : 0 ≤ c
      · obtain ⟨b, h1, _⟩ := hin _ c hi h0
        rw [List.getElem?_eq_none (by omega)] at h1
        cases h1
      · omega
    · have := List.eq_of_mem_replicate hc
      omega
  have ht : takeX x g D.length = { x with next := addS x.next D.length, data := D, got := g.drop D.length ++ List.replicate D.length (-1), fin := 0 } := by
    unfold takeX
    have hcond : frontL g ≠ [] ∨ runsN g ≤ 8 := by
      by_cases h0 : D = []
      · right
        have hng : ∀ c ∈ g, c < 0 := by
          intro c hc
          rw [h0] at hdr
          exact hdr c (by simpa using hc)
        have := runs_count g 0
        rw [runs_none g 0 hng] at this
        simp only [List.length_nil] at this
        omega
      · left
        rw [hfr]
        exact h0
    rw [if_pos hcond, hk, hfr, hxa, if_pos (by omega : (0 : Int) ≤ (D.length : Int))]
    simp
  have hall : acceptX x n D true = { x with next := addS (addS x.next D.length) 1, data := D, got := g.drop D.length ++ List.replicate D.length (-1), fin := 0, done := true } := by
    unfold acceptX
    rw [hxd, if_neg (by decide), hxn, diff_self, hf, hg, ht]
    unfold endX
    rw [if_pos rfl, hxn]
  rw [hall]
  exact ⟨rfl, rfl, hdr⟩
end Go.Proofs.Ytdgfhcojmfgimaa
