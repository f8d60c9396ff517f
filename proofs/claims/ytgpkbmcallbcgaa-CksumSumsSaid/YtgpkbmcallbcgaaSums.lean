/-
  CksumSums returns true for every three bytes within the reach, and turns nothing that was there.
-/
import Derived.Test.YtgpkbmcallbcgaaLives
import Derived.Test.YtgpkbmcallbcgaaRef
namespace Go.Proofs.Ytgpkbmcallbcgaa
open Go.RowKit

theorem sums_big (A A2 A3 : Option Addr) (L c L2 c2 L3 c3 : Nat) (w : World) (hm : L ≤ 140737488351232) (hm2 : L2 ≤ 140737488351232) (hm3 : L3 ≤ 140737488351232) (h : 3000 < L + L2 + L3) :
    Calls Try.prog 3 #[.slice A L c, .slice A2 L2 c2, .slice A3 L3 c3] w fun e w' => e = .returned (.bool true) ∧ Below w.heap.size w w' := by
  have hi : (3000 : Int) < (L : Int) + (L2 : Int) + (L3 : Int) := by omega
  go_enter Try.func3, Try.ntmps3
  go_wp2_with fail
  refine (lives_any _).mono ?_
  rintro e w1 ⟨rfl, hb1⟩
  go_wp2_with fail
  refine (lives_any _).mono ?_
  rintro e w2 ⟨rfl, hb2⟩
  go_wp2
  go_ret
  exact ⟨rfl, hb1.trans (hb2.mono hb1.size)⟩

/-- three parts in a new block -/
theorem three {w W : World} {A A2 A3 : Option Addr} {l m n : List UInt8} {c c2 c3 : Nat} (hb : Below w.heap.size w W) (h1 : Rd w 0 w.heap.size A (cells l)) (h2 : Rd w 0 w.heap.size A2 (cells m)) (h3 : Rd w 0 w.heap.size A3 (cells n)) :
    Pts W 0 w.heap.size [.slice A l.length c, .slice A2 m.length c2, .slice A3 n.length c3] [l, m, n] :=
  pts_cons (h1.below hb (Nat.le_refl _)) rfl (pts_cons (h2.below hb (Nat.le_refl _)) rfl (pts_cons (h3.below hb (Nat.le_refl _)) rfl pts_nil))
theorem all3 {l m n : List UInt8} (h : l.length + m.length + n.length ≤ 3000) : ∀ p ∈ [l, m, n], p.length ≤ maxLen := by
  intro p hp
  unfold maxLen
  simp at hp
  rcases hp with rfl | rfl | rfl <;> omega

set_option maxHeartbeats 1000000 in
theorem sums_walk (A A2 A3 : Option Addr) (l m n : List UInt8) (c c2 c3 : Nat) (w : World) (hl : l.length + m.length + n.length ≤ 3000) (h1 : Rd w 0 w.heap.size A (cells l)) (h2 : Rd w 0 w.heap.size A2 (cells m)) (h3 : Rd w 0 w.heap.size A3 (cells n)) :
    Calls Try.prog 3 #[.slice A l.length c, .slice A2 m.length c2, .slice A3 n.length c3] w fun e w' => e = .returned (.bool true) ∧ Below w.heap.size w w' := by
  have hil : (l.length : Int) + (m.length : Int) + (n.length : Int) ≤ 3000 := by omega
  obtain ⟨M, hM⟩ : ∃ M, l ++ m = M := ⟨_, rfl⟩
  obtain ⟨L, hL⟩ : ∃ L, M ++ n = L := ⟨_, rfl⟩
  have hMl : M.length ≤ 3000 := by rw [← hM, List.length_append]; omega
  have hLl : L.length ≤ 3000 := by rw [← hL, ← hM, List.length_append, List.length_append]; omega
  have HF : Hid ([l, m, n].flatten = L) := by show _ = _; rw [← hL, ← hM]; simp
  have e1 := ba_app l m
  have e2 := ba_app M n
  rw [hM] at e1
  rw [hL] at e2
  clear hM hL
  go_enter Try.func3, Try.ntmps3
  go_wp2_with fail
  refine (lives_any _).mono ?_
  rintro e w1 ⟨rfl, hb1⟩
  have k1 := run_text (P := Try.prog) w1 22 9 5 c Try.underlying22 Try.underlying5 Try.underlying9 (h1.below hb1 (Nat.le_refl _))
  have k2 := run_text (P := Try.prog) w1 22 9 5 c2 Try.underlying22 Try.underlying5 Try.underlying9 (h2.below hb1 (Nat.le_refl _))
  have k3 := run_text (P := Try.prog) w1 22 9 5 c3 Try.underlying22 Try.underlying5 Try.underlying9 (h3.below hb1 (Nat.le_refl _))
  have HH := Lib.hid hb1
  clear hb1
  go_wp2_with fail
  clear k1 k2 k3 e1 e2
  refine (fold_any _ _ [l, m, n] _ _ _ 0 w.heap.size _ L _ (rd_at _ _ _ _ _ (by simp)) (three (bal HH.out _) h1 h2 h3) rfl (by simp) (all3 hl) HF.out).mono ?_
  rintro e w2 ⟨rfl, rfl⟩
  go_wp2_with fail
  (with_reducible refine (reffold_any L _ (by omega)).mono ?_)
  rintro e w2 ⟨rfl, rfl⟩
  go_wp2_with fail
  refine (sum_any _ _ [l, m, n] _ _ _ 0 w.heap.size _ L _ (rd_at _ _ _ _ _ (by simp)) (three (bal (bal HH.out _) _) h1 h2 h3) rfl (by simp) (all3 hl) HF.out).mono ?_
  rintro e w2 ⟨rfl, rfl⟩
  go_wp2_with fail
  (with_reducible refine (refsum_any L _ (by omega)).mono ?_)
  rintro e w2 ⟨rfl, rfl⟩
  go_wp2_with fail
  refine (right_any _ _ [l, m, n] _ _ _ 0 w.heap.size _ L _ (rd_at _ _ _ _ _ (by simp)) (three (bal (bal (bal HH.out _) _) _) h1 h2 h3) rfl (by simp) (all3 hl) HF.out).mono ?_
  rintro e w2 ⟨rfl, rfl⟩
  go_wp2_with fail
  (with_reducible refine (reffold_any L _ (by omega)).mono ?_)
  rintro e w2 ⟨rfl, rfl⟩
  go_wp2_with fail
  go_ret
  exact ⟨rfl, bal (bal (bal HH.out _) _) _⟩
end Go.Proofs.Ytgpkbmcallbcgaa
