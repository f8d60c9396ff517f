/-
  CksumParts returns true for every two bytes within the reach, and turns nothing that was there.
-/
import Derived.Test.YtgpkbmcallbcgaaJoins
namespace Go.Proofs.Ytgpkbmcallbcgaa
open Go.RowKit

theorem info5 : (Try.prog.info? 5).map (fun i => (i.zero, i.size, i.bytes)) = some (some (.int .u8 0), 1, 1) := by kernel_rfl

theorem parts_big (A A2 : Option Addr) (L c L2 c2 : Nat) (w : World) (hm : L ≤ 140737488351232) (hm2 : L2 ≤ 140737488351232) (h : 3000 < L + L2 ∨ L % 2 = 1 ∨ L2 % 2 = 1) :
    Calls Try.prog 6 #[.slice A L c, .slice A2 L2 c2] w fun e w' => e = .returned (.bool true) ∧ Below w.heap.size w w' := by
  have hi : (3000 : Int) < (L : Int) + (L2 : Int) ∨ ((L : Int) + (L2 : Int) ≤ 3000 ∧ ((L : Int) % 2 == 1) = true) ∨ ((L : Int) + (L2 : Int) ≤ 3000 ∧ ((L : Int) % 2 == 1) = false ∧ ((L2 : Int) % 2 == 1) = true) := by
    by_cases h3 : 3000 < L + L2
    · exact .inl (by omega)
    · by_cases h4 : L % 2 = 1
      · exact .inr (.inl ⟨by omega, beqT (by omega)⟩)
      · exact .inr (.inr ⟨by omega, beqF (by omega), beqT (by omega)⟩)
  clear h
  rcases hi with hi | ⟨hi, hd⟩ | ⟨hi, hd, hd2⟩
  all_goals
    go_enter Try.func6, Try.ntmps6
    go_wp2_with fail
    refine (lives_any _).mono ?_
    rintro e w1 ⟨rfl, hb1⟩
    go_wp2_with fail
    refine (lives_any _).mono ?_
    rintro e w2 ⟨rfl, hb2⟩
    go_wp2
    go_ret
    exact ⟨rfl, hb1.trans (hb2.mono hb1.size)⟩

theorem add16_comm (a b : Nat) : add16 a b = add16 b a := by unfold add16; rw [Nat.add_comm]

set_option maxHeartbeats 1000000 in
theorem parts_walk (A A2 : Option Addr) (l m : List UInt8) (c c2 : Nat) (w : World) (hl : l.length + m.length ≤ 3000) (hp : l.length % 2 = 0) (hp2 : m.length % 2 = 0) (h1 : Rd w 0 w.heap.size A (cells l)) (h2 : Rd w 0 w.heap.size A2 (cells m))
    (hA : A = none → c = 0) (hA2 : A2 = none → c2 = 0) :
    Calls Try.prog 6 #[.slice A l.length c, .slice A2 m.length c2] w fun e w' => e = .returned (.bool true) ∧ Below w.heap.size w w' := by
  have hil : (l.length : Int) + (m.length : Int) ≤ 3000 := by omega
  have hd : ((l.length : Int) % 2 == 1) = false := beqF (by omega)
  have hd2 : ((m.length : Int) % 2 == 1) = false := beqF (by omega)
  have HS : Hid (sumL (m ++ l) = sumL (l ++ m)) := by show _ = _; rw [sumL_even l m (par_true l hp), sumL_even m l (par_true m hp2), add16_comm]
  obtain ⟨L, hL⟩ : ∃ L, l ++ m = L := ⟨_, rfl⟩
  have hLl : L.length = l.length + m.length := by rw [← hL, List.length_append]
  have HL := Lib.hid hL
  rw [hL] at HS
  obtain ⟨i0, hi0, hz0, hz1, hz2⟩ := info_parts info5
  clear hp hp2 hL
  have HLl := Lib.hid hLl
  clear hLl
  go_enter Try.func6, Try.ntmps6
  go_wp2_with fail
  refine (lives_any _).mono ?_
  rintro e w1 ⟨rfl, hb1⟩
  have HH := Lib.hid hb1
  clear hb1
  go_wp2_with fail
  refine (sum_any _ _ [l, m] _ _ _ 0 w.heap.size _ L _ (rd_at _ _ _ _ _ (by simp)) (pts_cons (h1.below (bal HH.out _) (Nat.le_refl _)) rfl (pts_cons (h2.below (bal HH.out _) (Nat.le_refl _)) rfl pts_nil)) rfl (by simp) (all2 (by omega) (by omega)) (by simp [HL.out])).mono ?_
  rintro e w2 ⟨rfl, rfl⟩
  go_wp2_with fail
  refine (sum_any _ _ [m, l] _ _ _ 0 w.heap.size _ (m ++ l) _ (rd_at _ _ _ _ _ (by simp)) (pts_cons (h2.below (bal (bal HH.out _) _) (Nat.le_refl _)) rfl (pts_cons (h1.below (bal (bal HH.out _) _) (Nat.le_refl _)) rfl pts_nil)) rfl (by simp) (all2 (by omega) (by omega)) (by simp)).mono ?_
  rintro e w2 ⟨rfl, rfl⟩
  rw [HS.out]
  go_wp2_with fail
  refine (sum_any _ _ [l, [], m] _ _ _ 0 w.heap.size _ L _ (rd_at _ _ _ _ _ (by simp)) (pts_cons (h1.below (bal (bal (bal HH.out _) _) _) (Nat.le_refl _)) rfl (pts_cons Rd.nil rfl (pts_cons (h2.below (bal (bal (bal HH.out _) _) _) (Nat.le_refl _)) rfl pts_nil))) rfl (by simp) (all3' (by omega) (by simp) (by omega)) (by simp [HL.out])).mono ?_
  rintro e w2 ⟨rfl, rfl⟩
  have hs1 : w.heap.size ≤ w1.heap.size := HH.out.size
  have HB5 : Hid (∀ o1 o2 o3 o4, Below w.heap.size w ((((w1.alloc o1).alloc o2).alloc o3).alloc o4)) := fun _ _ _ _ => bal (bal (bal (bal HH.out _) _) _) _
  go_wp2_with (at_builtin; refine wpList_append_rdg rfl (.tmp 42) (.tmp 43) 22 rfl w.heap.size 5 i0 (.int .u8 0) 1 Try.underlying22 hi0 hz0 hz1 hz2 rfl _ _ _ rfl (own_lit _ [] _ _ w.heap.size 0 (by simp) (by simp; omega) (by unfold maxLen; omega) rfl) A l.length c (cells l) rfl hA (cells_length l) (h1.below (HB5.out _ _ _ _) (Nat.le_refl _)) (cells_one l) (by unfold maxLen; omega) (by omega) (by simp; omega) ?_)
  intro v2 w2 hown2 hgrow2
  have HB2 : Hid (Below w.heap.size w w2) := (HB5.out _ _ _ _).grown hgrow2 (by simp; omega) fun g hg => by simp [Value.ownBlock] at hg; omega
  have hs2 : w.heap.size ≤ w2.heap.size := HB2.out.size
  clear hgrow2
  go_wp2_with (at_builtin; refine wpList_append_rdg rfl (.tmp 44) (.tmp 45) 22 rfl w.heap.size 5 i0 (.int .u8 0) 1 Try.underlying22 hi0 hz0 hz1 hz2 rfl _ _ _ rfl hown2 A2 m.length c2 (cells m) rfl hA2 (cells_length m) (h2.below HB2.out (Nat.le_refl _)) (cells_one m) (by unfold maxLen; omega) (by omega) hs2 ?_)
  intro v3 w3 hown3 hgrow3
  have HB3 : Hid (Below w.heap.size w w3) := HB2.out.grown hgrow3 hs2 fun g hg => (hown2.lt g hg).1
  have hs3 : w.heap.size ≤ w3.heap.size := HB3.out.size
  rw [← cells_append, HL.out, ← HLl.out] at hown3
  obtain ⟨A5, c5, hv3⟩ := own_form hown3
  rw [hv3] at hown3 ⊢
  clear hgrow3 hown2 hv3
  have HR := Lib.hid (Rd.own hown3)
  clear hown3
  go_wp2_with fail
  refine (sum_any _ _ [L] _ _ _ 0 w3.heap.size _ L _ (rd_at _ _ _ _ _ (by simp)) (pts_cons ((HR.out.alloc (Nat.le_refl _) _).wide (Nat.zero_le _) (Nat.le_refl _)) rfl pts_nil) rfl (by simp) (all1 (by rw [HLl.out]; omega)) (by simp)).mono ?_
  rintro e w4 ⟨rfl, rfl⟩
  go_wp2_with fail
  go_ret
  exact ⟨rfl, bal HB3.out _⟩
end Go.Proofs.Ytgpkbmcallbcgaa
