/-
  Clocks: who measures the same time again and again settles; who waits in vain doubles. Plain mathematics. No condition.
-/
import Derived.Test.YtafpnmmkaanjaaaCk
namespace Go.Proofs.Ytafpnmmkaanjaaa

def itN (g : Nat → Nat) : Nat → Nat → Nat
  | 0, x => x
  | k + 1, x => itN g k (g x)
theorem itN_mono {g : Nat → Nat} (hg : ∀ a b, a ≤ b → g a ≤ g b) : ∀ (k : Nat) {a b : Nat}, a ≤ b → itN g k a ≤ itN g k b
  | 0, _, _, h => h
  | k + 1, _, _, h => itN_mono hg k (hg _ _ h)
def gE (e : Nat) : Nat := e * 7 / 8
def gF (f : Nat) : Nat := f - f / 8
def gD (d : Nat) : Nat := d - d / 4
theorem gE_mono (a b : Nat) (h : a ≤ b) : gE a ≤ gE b := by unfold gE; omega
theorem gF_mono (a b : Nat) (h : a ≤ b) : gF a ≤ gF b := by unfold gF; omega
theorem gD_mono (a b : Nat) (h : a ≤ b) : gD a ≤ gD b := by unfold gD; omega
theorem gE_end : itN gE 60 1928 = 0 := by decide +kernel
theorem gF_end : itN gF 60 1928 ≤ 7 := by decide +kernel
theorem gD_end : itN gD 50 964 ≤ 3 := by decide +kernel
/-- measured so often -/
def iterM (t : Nat) : Nat → Ck → Ck
  | 0, c => c
  | k + 1, c => iterM t k (measX c t)
theorem iter_succ (t : Nat) : ∀ (k : Nat) (c : Ck), iterM t (k + 1) c = measX (iterM t k c) t
  | 0, _ => rfl
  | k + 1, c => by
    show iterM t (k + 1) (measX c t) = _
    rw [iter_succ t k (measX c t)]
    rfl
theorem iter_add (t : Nat) : ∀ (j k : Nat) (c : Ck), iterM t (j + k) c = iterM t j (iterM t k c)
  | j, 0, _ => rfl
  | j, k + 1, c => by
    show iterM t (j + k) (measX c t) = _
    rw [iter_add t j k]
    rfl
theorem iter_right {t : Nat} : ∀ (k : Nat) {c : Ck}, rightX c = true → rightX (iterM t k c) = true
  | 0, _, h => h
  | k + 1, _, h => iter_right k (meas_right h)
theorem meas_s {c : Ck} {t : Nat} (h : 0 ≤ c.s) : (measX c t).s = c.s - c.s / 8 + lidX t := if_pos h
theorem meas_d {c : Ck} {t : Nat} (h : 0 ≤ c.s) : (measX c t).d = c.d - c.d / 4 + apartX (c.s / 8 - lidX t) := if_pos h
theorem s_low {t : Nat} : ∀ (k : Nat) {c : Ck} {e : Nat}, 0 ≤ c.s → c.s + (e : Int) = 8 * lidX t → 0 ≤ (iterM t k c).s ∧ (iterM t k c).s + (itN gE k e : Int) = 8 * lidX t
  | 0, _, _, h, k => ⟨h, k⟩
  | k + 1, c, e, h, he => by
    have hl := lid_in t
    have hs := meas_s (t := t) h
    refine s_low k (c := measX c t) (e := gE e) (by rw [hs]; omega) ?_
    rw [hs]
    unfold gE
    omega
theorem s_high {t : Nat} : ∀ (k : Nat) {c : Ck} {f : Nat}, 0 ≤ c.s → c.s = 8 * lidX t + (f : Int) → 0 ≤ (iterM t k c).s ∧ (iterM t k c).s = 8 * lidX t + (itN gF k f : Int)
  | 0, _, _, h, k => ⟨h, k⟩
  | k + 1, c, f, h, he => by
    have hl := lid_in t
    have hs := meas_s (t := t) h
    refine s_high k (c := measX c t) (f := gF f) (by rw [hs]; omega) ?_
    rw [hs]
    unfold gF
    omega
/-- the smoothed time has come to where it stays -/
def Still (t : Nat) (c : Ck) : Prop := 8 * lidX t ≤ c.s ∧ c.s ≤ 8 * lidX t + 7
theorem still_at {t : Nat} {c : Ck} (h : rightX c = true) (h0 : 0 ≤ c.s) : Still t (iterM t 60 c) := by
  have hl := lid_in t
  have hr := right_iff.1 h
  unfold Still
  by_cases hle : c.s ≤ 8 * lidX t
  · obtain ⟨e, he⟩ : ∃ e : Nat, c.s + (e : Int) = 8 * lidX t := ⟨(8 * lidX t - c.s).toNat, by omega⟩
    have h1 := (s_low 60 h0 he).2
    have h2 := itN_mono gE_mono 60 (show e ≤ 1928 by omega)
    rw [gE_end] at h2
    omega
  · obtain ⟨f, hf⟩ : ∃ f : Nat, c.s = 8 * lidX t + (f : Int) := ⟨(c.s - 8 * lidX t).toNat, by omega⟩
    have h1 := (s_high 60 h0 hf).2
    have h2 := itN_mono gF_mono 60 (show f ≤ 1928 by omega)
    have h3 := gF_end
    omega
theorem still_meas {t : Nat} {c : Ck} (h : Still t c) : Still t (measX c t) ∧ (measX c t).d = c.d - c.d / 4 := by
  have hl := lid_in t
  unfold Still at *
  have h0 : 0 ≤ c.s := by omega
  rw [meas_s h0, meas_d h0]
  have h8 : c.s / 8 = lidX t := by omega
  rw [h8]
  refine ⟨by omega, ?_⟩
  rw [Int.sub_self]
  show c.d - c.d / 4 + apartX 0 = _
  rw [show apartX 0 = 0 from rfl]
  omega
theorem d_down {t : Nat} : ∀ (k : Nat) {c : Ck} {d : Nat}, Still t c → c.d = (d : Int) → Still t (iterM t k c) ∧ (iterM t k c).d = (itN gD k d : Int)
  | 0, _, _, h, k => ⟨h, k⟩
  | k + 1, c, d, h, he => by
    obtain ⟨h1, h2⟩ := still_meas h
    refine d_down k (c := measX c t) (d := gD d) h1 ?_
    rw [h2, he]
    unfold gD
    omega
theorem lid_eq (t : Nat) : lidX t = min (t : Int) 240 := by unfold lidX; split <;> omega
theorem settles {t : Nat} {c : Ck} (h : rightX c = true) : min (t : Int) 240 ≤ (iterM t 120 c).w ∧ 4 ≤ (iterM t 120 c).w ∧ (iterM t 120 c).w ≤ min (max ((t : Int) + 12) 4) 240 := by
  have hl := lid_in t
  have hle := lid_eq t
  rw [show 120 = 1 + (58 + (60 + 1)) from rfl, iter_add, iter_add, iter_add]
  have hm : iterM t 1 c = measX c t := rfl
  rw [hm]
  have hr1 := meas_right (t := t) h
  have hs1 := still_at (t := t) hr1 (meas_some (t := t) h).1
  have hr2 := iter_right (t := t) 60 hr1
  generalize iterM t 60 (measX c t) = c2 at hs1 hr2
  have hd := right_iff.1 hr2
  obtain ⟨d, hdd⟩ : ∃ d : Nat, c2.d = (d : Int) := ⟨c2.d.toNat, by unfold Still at hs1; omega⟩
  obtain ⟨h3, h4⟩ := d_down 58 hs1 hdd
  have h5 : itN gD 58 d ≤ 3 := by
    have e : itN gD 58 d = itN gD 8 (itN gD 50 d) := rfl
    rw [e]
    have h6 := itN_mono gD_mono 50 (show d ≤ 964 by omega)
    have h7 : itN gD 50 d ≤ 3 := Nat.le_trans h6 gD_end
    have h8 : itN gD 8 3 ≤ 3 := by decide
    exact Nat.le_trans (itN_mono gD_mono 8 h7) h8
  generalize iterM t 58 c2 = c3 at h3 h4
  show min (t : Int) 240 ≤ (measX c3 t).w ∧ 4 ≤ (measX c3 t).w ∧ (measX c3 t).w ≤ _
  obtain ⟨h9, h10⟩ := still_meas h3
  unfold Still at h9
  have hw : (measX c3 t).w = boundX ((measX c3 t).s / 8 + if (measX c3 t).d < 1 then 1 else (measX c3 t).d) := rfl
  rw [hw]
  generalize (measX c3 t).s = S at h9 ⊢
  generalize (measX c3 t).d = D at h10 ⊢
  rw [h4] at h10
  unfold boundX
  generalize itN gD 58 d = q at h5 h10
  split
  · split
    · omega
    · split <;> omega
  · split
    · omega
    · split <;> omega
theorem dbl_w {n : Int} (h : 4 ≤ n) : boundX (n + n) = min (2 * n) 240 := by
  unfold boundX
  split
  · omega
  · split <;> omega
theorem new_meas (t : Nat) : measX newX t = ⟨8 * lidX t, 2 * lidX t, waitX (8 * lidX t) (2 * lidX t)⟩ := rfl
theorem again_w {c : Ck} {t : Nat} (hs : c.s = 8 * lidX t) (hd : c.d = 2 * lidX t) : (measX c t).w ≤ max (waitX (8 * lidX t) (2 * lidX t)) 4 := by
  have hl := lid_in t
  have hw : (measX c t).w = waitX (measX c t).s (measX c t).d := rfl
  rw [hw, meas_s (by omega), meas_d (by omega), hs, hd]
  generalize lidX t = r at hl
  rw [show 8 * r / 8 = r from by omega, Int.sub_self, show apartX 0 = 0 from rfl]
  unfold waitX boundX
  rw [show (8 * r - r + r) / 8 = r from by omega, show 8 * r / 8 = r from by omega]
  repeat' split
  all_goals omega
end Go.Proofs.Ytafpnmmkaanjaaa
