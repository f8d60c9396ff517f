/-
  What the code's Right of layer 18 tells of any state.
-/
import Derived.Test.YtebflcpoecolbaaSca
namespace Go.Proofs.Ytebflcpoecolbaa
open Go.RowKit

set_option maxRecDepth 100000 in
set_option maxHeartbeats 4000000 in
theorem right18_any (u z : Int) (v : Value) (l : List UInt8) (f fs fa : Bool) (S : Nat → Prop) (w : World) (hv : Rv w S v (bytesD l)) (hz : I64 z) (hl : l.length ≤ 140737488351232) : Calls Try.prog 13 #[.agg #[.int .u32 u, v, .int .i64 z, .bool f, .bool fs, .bool fa]] w fun e w' => e = .returned (.bool (rightB l.length z f fs fa)) ∧ Below w.heap.size w w' := by
  obtain ⟨A, c, rfl, -, -, h3, h4⟩ := rv_bytes.1 hv
  obtain ⟨n, hn⟩ : ∃ n, l.length = n := ⟨_, rfl⟩
  rw [hn] at h3 hl ⊢
  have hc63 : c ≤ 9223372036854775807 := by unfold maxLen at h4; omega
  obtain ⟨R, hR⟩ : ∃ R, rightB n z f fs fa = R := ⟨_, rfl⟩
  have HR := Lib.hid hR
  rw [hR]
  obtain ⟨hz1, hz2⟩ := hz
  clear hv hn h4 hR
  obtain ⟨w1, hw1⟩ : ∃ w1, w.alloc (.cells (#[.int .u32 u, .slice A n c, .int .i64 z, .bool f, .bool fs, .bool fa]) 28) = w1 := ⟨_, rfl⟩
  have HB : Hid (Below w.heap.size w w1) := by rw [← hw1]; exact (Below.refl _ _).alloc (Nat.le_refl _) _
  have HX : Hid (w1.heap[w.heap.size]? = some (.cells (#[.int .u32 u, .slice A n c, .int .i64 z, .bool f, .bool fs, .bool fa]) 28 (0, 0))) := by rw [← hw1]; exact heap_alloc_new w _
  have HS1 : Hid (w1.heap.size = w.heap.size + 1) := by show _ = _; rw [← hw1]; simp
  have HW := Lib.hid hw1
  clear hw1
  go_enter Try.func13, Try.ntmps13
  go_upto_region 1 with (fail)
  change Code.wp _ _ _ _ (w.alloc (.cells (#[.int .u32 u, .slice A n c, .int .i64 z, .bool f, .bool fs, .bool fa]) 28))
  rw [HW.out]
  clear HW
  have c1 : w1.cell? ⟨w.heap.size, 1, none⟩ = some (.slice A n c) := by rw [cell_of_row _ _ _ _ _ _ HX.out]; rfl
  have c2 : w1.cell? ⟨w.heap.size, 2, none⟩ = some (.int .i64 z) := by rw [cell_of_row _ _ _ _ _ _ HX.out]; rfl
  have c3 : w1.cell? ⟨w.heap.size, 3, none⟩ = some (.bool f) := by rw [cell_of_row _ _ _ _ _ _ HX.out]; rfl
  have c4 : w1.cell? ⟨w.heap.size, 4, none⟩ = some (.bool fs) := by rw [cell_of_row _ _ _ _ _ _ HX.out]; rfl
  have c5 : w1.cell? ⟨w.heap.size, 5, none⟩ = some (.bool fa) := by rw [cell_of_row _ _ _ _ _ _ HX.out]; rfl
  by_cases g1 : 256 < n
  · have HE : Hid (rightB n z f fs fa = false) := by show _ = _; unfold rightB; rw [decide_eq_false (show ¬ n ≤ 256 by omega)]; rfl
    have g2 : 256 < (n : Int) := by omega
    go_wp2
    go_ret
    exact ⟨by rw [← HR.out, HE.out]; rfl, HB.out⟩
  by_cases g2 : z < 0
  · have HE : Hid (rightB n z f fs fa = false) := by show _ = _; unfold rightB; rw [decide_eq_false (show ¬ 0 ≤ z by omega), Bool.and_false]; rfl
    have g3 : (n : Int) ≤ 256 := by omega
    go_wp2
    go_ret
    exact ⟨by rw [← HR.out, HE.out]; rfl, HB.out⟩
  by_cases g3 : (n : Int) < z
  · have HE : Hid (rightB n z f fs fa = false) := by show _ = _; unfold rightB; rw [decide_eq_false (show ¬ z ≤ n by omega), Bool.and_false]; rfl
    have g4 : (n : Int) ≤ 256 := by omega
    go_wp2
    go_ret
    exact ⟨by rw [← HR.out, HE.out]; rfl, HB.out⟩
  have e1 : decide (n ≤ 256) = true := decide_eq_true (by omega)
  have e2 : decide (0 ≤ z) = true := decide_eq_true (by omega)
  have e3 : decide (z ≤ n) = true := decide_eq_true (by omega)
  have g4 : (n : Int) ≤ 256 := by omega
  have g5 : 0 ≤ z := by omega
  have g6 : z ≤ n := by omega
  have E1 := Lib.hid (And.intro e1 (And.intro e2 e3))
  clear g1 g2 g3 e1 e2 e3
  by_cases g7 : z = n
  · have E2 : Hid (decide (z = n) = true) := decide_eq_true g7
    by_cases g8 : n = 0
    · have E3 : Hid (decide (n = 0) = true) := decide_eq_true g8
      have HEA : Hid (∀ f fs fa, rightB n z f fs fa = ((!fs || (f && true)) && (!fa || (fs && true)))) := (by intro f fs fa; unfold rightB; rw [E1.out.1, E1.out.2.1, E1.out.2.2, E2.out, E3.out]; rfl)
      clear E1 E2 E3
      subst g7
      subst g8
      cases fs <;> cases f <;> cases fa
      all_goals
        go_wp2
        go_ret
        exact ⟨by rw [← HR.out, HEA.out]; rfl, HB.out⟩
    · have E3 : Hid (decide (n = 0) = false) := decide_eq_false g8
      have g9 : 0 < (n : Int) := by omega
      have HEA : Hid (∀ f fs fa, rightB n z f fs fa = ((!fs || (f && true)) && (!fa || (fs && false)))) := (by intro f fs fa; unfold rightB; rw [E1.out.1, E1.out.2.1, E1.out.2.2, E2.out, E3.out]; rfl)
      clear E1 E2 E3
      subst g7
      cases fs <;> cases f <;> cases fa
      all_goals
        go_wp2
        go_ret
        exact ⟨by rw [← HR.out, HEA.out]; rfl, HB.out⟩
  · have E2 : Hid (decide (z = n) = false) := decide_eq_false g7
    have g8 : z < n := by omega
    have g9 : 0 < (n : Int) := by omega
    have E3 : Hid (decide (n = 0) = false) := decide_eq_false (by omega)
    have HEA : Hid (∀ f fs fa, rightB n z f fs fa = ((!fs || (f && false)) && (!fa || (fs && false)))) := (by intro f fs fa; unfold rightB; rw [E1.out.1, E1.out.2.1, E1.out.2.2, E2.out, E3.out]; rfl)
    clear E1 E2 E3
    cases fs <;> cases f <;> cases fa
    all_goals
      go_wp2
      go_ret
      exact ⟨by rw [← HR.out, HEA.out]; rfl, HB.out⟩
end Go.Proofs.Ytebflcpoecolbaa
