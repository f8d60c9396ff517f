/-
  CksumJoins and CksumParts return true for every two bytes within the reach, and turn nothing that was there.
-/
import Derived.Test.YtgpkbmcallbcgaaLives
namespace Go.Proofs.Ytgpkbmcallbcgaa
open Go.RowKit

theorem joins_big (A A2 : Option Addr) (L c L2 c2 : Nat) (w : World) (hm : L ≤ 140737488351232) (hm2 : L2 ≤ 140737488351232) (h : 3000 < L + L2 ∨ L % 2 = 1) :
    Calls Try.prog 7 #[.slice A L c, .slice A2 L2 c2] w fun e w' => e = .returned (.bool true) ∧ Below w.heap.size w w' := by
  have hi : (3000 : Int) < (L : Int) + (L2 : Int) ∨ ((L : Int) + (L2 : Int) ≤ 3000 ∧ ((L : Int) % 2 == 1) = true) := by
    by_cases h3 : 3000 < L + L2
    · exact .inl (by omega)
    · exact .inr ⟨by omega, beqT (by omega)⟩
  clear h
  rcases hi with hi | ⟨hi, hd⟩
  all_goals
    go_enter Try.func7, Try.ntmps7
    go_wp2_with fail
    refine (lives_any _).mono ?_
    rintro e w1 ⟨rfl, hb1⟩
    go_wp2_with fail
    refine (lives_any _).mono ?_
    rintro e w2 ⟨rfl, hb2⟩
    go_wp2
    go_ret
    exact ⟨rfl, hb1.trans (hb2.mono hb1.size)⟩

theorem all1 {l : List UInt8} (h : l.length ≤ 4000) : ∀ p ∈ [l], p.length ≤ maxLen := by
  intro p hp
  unfold maxLen
  simp at hp
  subst hp
  omega
theorem all2 {l m : List UInt8} (h : l.length ≤ 4000) (h2 : m.length ≤ 4000) : ∀ p ∈ [l, m], p.length ≤ maxLen := by
  intro p hp
  unfold maxLen
  simp at hp
  rcases hp with rfl | rfl <;> omega
theorem all3' {l m n : List UInt8} (h : l.length ≤ 4000) (h2 : m.length ≤ 4000) (h3 : n.length ≤ 4000) : ∀ p ∈ [l, m, n], p.length ≤ maxLen := by
  intro p hp
  unfold maxLen
  simp at hp
  rcases hp with rfl | rfl | rfl <;> omega
/-- whole words, and more -/
theorem sumL_even (l m : List UInt8) (h : par l = true) : sumL (l ++ m) = add16 (sumL l) (sumL m) := by
  unfold sumL
  rw [tot_even l m h, add16_fold]
theorem par_true (l : List UInt8) (h : l.length % 2 = 0) : par l = true := by unfold par; simp [h]

set_option maxHeartbeats 1000000 in
theorem joins_walk (A A2 : Option Addr) (l m : List UInt8) (c c2 : Nat) (w : World) (hl : l.length + m.length ≤ 3000) (hp : l.length % 2 = 0) (h1 : Rd w 0 w.heap.size A (cells l)) (h2 : Rd w 0 w.heap.size A2 (cells m)) :
    Calls Try.prog 7 #[.slice A l.length c, .slice A2 m.length c2] w fun e w' => e = .returned (.bool true) ∧ Below w.heap.size w w' := by
  have hil : (l.length : Int) + (m.length : Int) ≤ 3000 := by omega
  have hd : ((l.length : Int) % 2 == 1) = false := beqF (by omega)
  have HS : Hid (sumL (l ++ m) = add16 (sumL l) (sumL m)) := sumL_even l m (par_true l hp)
  have HZ : Hid (sumL (l ++ ([] ++ ([0, 0] ++ []))) = sumL l) := by
    show _ = _
    rw [sumL_even l _ (par_true l hp), show ([] ++ ([0, 0] ++ []) : List UInt8) = [0, 0] from rfl, show sumL [0, 0] = 0 from by decide]
    have := sumL_le l
    unfold add16
    rw [if_neg (by omega)]
    rfl
  have hal := sumL_le l
  have ham := sumL_le m
  clear hp
  go_enter Try.func7, Try.ntmps7
  go_wp2_with fail
  refine (lives_any _).mono ?_
  rintro e w1 ⟨rfl, hb1⟩
  have HH := Lib.hid hb1
  clear hb1
  go_wp2_with fail
  refine (fold_any _ _ [l] _ _ _ 0 w.heap.size _ (l ++ []) _ (rd_at _ _ _ _ _ (by simp)) (pts_cons (h1.below (bal HH.out _) (Nat.le_refl _)) rfl pts_nil) rfl (by simp) (all1 (by omega)) rfl).mono ?_
  rintro e w2 ⟨rfl, rfl⟩
  rw [List.append_nil]
  go_wp2_with fail
  refine (fold_any _ _ [m] _ _ _ 0 w.heap.size _ (m ++ []) _ (rd_at _ _ _ _ _ (by simp)) (pts_cons (h2.below (bal (bal HH.out _) _) (Nat.le_refl _)) rfl pts_nil) rfl (by simp) (all1 (by omega)) rfl).mono ?_
  rintro e w2 ⟨rfl, rfl⟩
  rw [List.append_nil]
  obtain ⟨x, hx⟩ : ∃ x, sumL l = x := ⟨_, rfl⟩
  obtain ⟨y, hy⟩ : ∃ y, sumL m = y := ⟨_, rfl⟩
  rw [hx] at hal ⊢
  rw [hy] at ham ⊢
  have HS2 : Hid (sumL (l ++ (m ++ [])) = add16 x y) := by show _ = _; rw [List.append_nil, HS.out, hx, hy]
  have HZ2 : Hid (sumL (l ++ ([] ++ ([0, 0] ++ []))) = x) := HZ.out.trans hx
  have HX := Lib.hid hx
  clear HS HZ hx hy
  by_cases h : 65535 < x + y
  all_goals
    have HA : Hid (((add16 x y : Nat) : Int) = if 65535 < x + y then (x : Int) + y - 65535 else (x : Int) + y) := by
      show _ = _
      unfold add16
      split <;> omega
    first
    | rw [if_pos h] at HA
      have hi : (65535 : Int) < (x : Int) + (y : Int) := by omega
    | rw [if_neg h] at HA
      have hi : (x : Int) + (y : Int) ≤ (65535 : Int) := by omega
    clear h
    go_wp2_with fail
    refine (fold_any _ _ [l, m] _ _ _ 0 w.heap.size _ (l ++ (m ++ [])) _ (rd_at _ _ _ _ _ (by simp)) (pts_cons (h1.below (bal (bal (bal HH.out _) _) _) (Nat.le_refl _)) rfl (pts_cons (h2.below (bal (bal (bal HH.out _) _) _) (Nat.le_refl _)) rfl pts_nil)) rfl (by simp) (all2 (by omega) (by omega)) rfl).mono ?_
    rintro e w2 ⟨rfl, rfl⟩
    rw [HS2.out, HA.out]
    go_wp2_with fail
    refine (fold_any _ _ [l, [], [0, 0]] _ _ _ 0 (w1.heap.size + 1 + 1 + 1 + 1) _ (l ++ ([] ++ ([0, 0] ++ []))) _ (rd_at _ _ _ _ _ (by simp)) (pts_cons ((h1.below (bal (bal (bal (bal (bal HH.out _) _) _) _) _) (Nat.le_refl _)).wide (Nat.le_refl _) (by have := HH.out.size; omega)) rfl (pts_cons Rd.nil rfl (pts_cons (((rd_at _ (cells [0, 0]) 5 (0, 0) _ (by simp)).alloc (by simp) _).wide (Nat.zero_le _) (Nat.le_refl _)) rfl pts_nil))) rfl (by simp) (all3' (by omega) (by simp) (by simp)) rfl).mono ?_
    rintro e w2 ⟨rfl, rfl⟩
    rw [HZ2.out]
    go_wp2_with fail
    refine (fold_any _ _ [l] _ _ _ 0 w.heap.size _ (l ++ []) _ (rd_at _ _ _ _ _ (by simp)) (pts_cons (h1.below (bal (bal (bal (bal (bal (bal HH.out _) _) _) _) _) _) (Nat.le_refl _)) rfl pts_nil) rfl (by simp) (all1 (by omega)) rfl).mono ?_
    rintro e w2 ⟨rfl, rfl⟩
    rw [List.append_nil, HX.out]
    go_wp2_with fail
    go_ret
    exact ⟨rfl, bal (bal (bal (bal (bal (bal HH.out _) _) _) _) _) _⟩
end Go.Proofs.Ytgpkbmcallbcgaa
