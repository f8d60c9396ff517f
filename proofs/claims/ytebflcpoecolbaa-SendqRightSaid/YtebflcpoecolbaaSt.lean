/-
  The law SendqRight: every state that may be handed in.
-/
import Derived.Test.YtebflcpoecolbaaSv
namespace Go.Proofs.Ytebflcpoecolbaa
open Go.RowKit

set_option maxRecDepth 100000 in
set_option maxHeartbeats 16000000 in
theorem right_any (u z : Int) (A : Option Addr) (n c : Nat) (l : List UInt8) (f fs fa : Bool) (w : World) (hv : Rv w (Lt w.heap.size) (.slice A n c) (bytesD l)) (hl : l.length = n) (hz : I64 z) (hn : n ≤ 140737488351232) : Calls Try.prog 5 #[.agg #[.int .u32 u, .slice A n c, .int .i64 z, .bool f, .bool fs, .bool fa]] w fun e w' => e = .returned (.bool true) ∧ Below w.heap.size w w' := by
  have HL := Lib.hid hl
  have HZ := Lib.hid hz
  have F0 := Lib.hid ((Frm.start (Below.refl w.heap.size w)).alloc #[.int .u32 u, .slice A n c, .int .i64 z, .bool f, .bool fs, .bool fa] 28)
  have F1 := Lib.hid (F0.out.add (F0.out.old (rvs_cons.2 ⟨hv, rvs_nil⟩)))
  clear F0 hv hl hz
  go_enter Try.func5, Try.ntmps5
  go_upto_region 1 with (fail)
  obtain ⟨g, hg⟩ : ∃ g, w.heap.size = g := ⟨_, rfl⟩
  obtain ⟨w0, hw0⟩ : ∃ w0, w.alloc (.cells #[.int .u32 u, .slice A n c, .int .i64 z, .bool f, .bool fs, .bool fa] 28) = w0 := ⟨_, rfl⟩
  change Code.wp _ _ _ _ (w.alloc (.cells #[.int .u32 u, .slice A n c, .int .i64 z, .bool f, .bool fs, .bool fa] 28))
  rw [hw0, hg] at F1
  rw [hw0, hg]
  clear hw0 hg
  go_wp2_with fail
  refine (lives18_any _).mono ?_
  rintro e w1 ⟨rfl, hb1⟩
  have F2 := Lib.hid (F1.out.call hb1)
  clear F1 hb1
  have six : ∀ {w : World} {b : Nat} {v0 v1 v2 v3 v4 v5 : Value} {t : TypeId} {fr : Nat × Nat}, w.heap[b]? = some (.cells #[v0, v1, v2, v3, v4, v5] t fr) → w.cell? ⟨b, 0, none⟩ = some v0 ∧ w.cell? ⟨b, 1, none⟩ = some v1 ∧ w.cell? ⟨b, 2, none⟩ = some v2 ∧ w.cell? ⟨b, 3, none⟩ = some v3 ∧ w.cell? ⟨b, 4, none⟩ = some v4 ∧ w.cell? ⟨b, 5, none⟩ = some v5 := fun h => by
    refine ⟨?_, ?_, ?_, ?_, ?_, ?_⟩ <;> (rw [cell_of_row _ _ _ _ _ _ h]; rfl)
  obtain ⟨c0, c1, c2, c3, c4, c5⟩ := six (F2.out.at (i := 0) rfl)
  clear six
  by_cases h4 : 400 < n
  · have h4b : (400 : Int) < (n : Int) := by omega
    go_wp2_with fail
    refine (lives18_any _).mono ?_
    rintro e w3 ⟨rfl, hb3⟩
    have HB3 := Lib.hid (F2.out.call hb3).below
    clear hb3 F2 c0 c1 c2 c3 c4 c5
    go_wp2
    go_ret
    exact ⟨rfl, HB3.out⟩
  have h4b : ¬ (400 : Int) < (n : Int) := by omega
  have HRI := Lib.hid (right18_any u z _ l f fs fa _ w1 (rvs_cons.1 (F2.out.val (i := 0) rfl)).1 HZ.out (by rw [HL.out]; omega))
  rw [HL.out] at HRI
  obtain ⟨RB, hRB⟩ : ∃ RB, rightB n z f fs fa = RB := ⟨_, rfl⟩
  rw [hRB] at HRI
  have HRB := Lib.hid hRB
  clear hRB
  go_upto_region 3 with (fail)
  go_cut [3] (fun t3 wx => Hid (t3 = .bool (decide (n ≤ 256) && decide (0 ≤ z) && decide (z ≤ n))) ∧ Hid (w1 = wx))
  case first =>
    by_cases ha : n ≤ 256
    · have haI : (n : Int) ≤ 256 := by omega
      by_cases hb : 0 ≤ z
      · by_cases hc : z ≤ (n : Int)
        · have hcI : z ≤ (n : Int) := hc
          have he : Hid ((decide (n ≤ 256) && decide (0 ≤ z) && decide (z ≤ n)) = true) := by show _ = _; simp [*]
          go_wp2
          go_meet
          case rel => exact ⟨Lib.hid (by rw [he.out]), Lib.hid rfl⟩
        · have hcI : (n : Int) < z := by omega
          have he : Hid ((decide (n ≤ 256) && decide (0 ≤ z) && decide (z ≤ n)) = false) := by show _ = _; simp [*]
          go_wp2
          go_meet
          case rel => exact ⟨Lib.hid (by rw [he.out]), Lib.hid rfl⟩
      · have he : Hid ((decide (n ≤ 256) && decide (0 ≤ z) && decide (z ≤ n)) = false) := by show _ = _; simp [*]
        go_wp2
        go_meet
        case rel => exact ⟨Lib.hid (by rw [he.out]), Lib.hid rfl⟩
    · have haI : ¬ (n : Int) ≤ 256 := by omega
      have he : Hid ((decide (n ≤ 256) && decide (0 ≤ z) && decide (z ≤ n)) = false) := by show _ = _; simp [*]
      go_wp2
      go_meet
      case rel => exact ⟨Lib.hid (by rw [he.out]), Lib.hid rfl⟩
  case rest =>
    obtain ⟨h3, hx⟩ := hcut
    obtain ⟨b1, hb1⟩ : ∃ b1, (decide (n ≤ 256) && decide (0 ≤ z) && decide (z ≤ n)) = b1 := ⟨_, rfl⟩
    rw [hb1] at h3
    have HR1 : Hid (RB = (b1 && (!fs || (f && decide (z = n))) && (!fa || (fs && decide (n = 0))))) := by show _ = _; rw [← HRB.out, ← hb1]; rfl
    obtain rfl := h3.out
    obtain rfl := hx.out
    clear h3 hx hb1 HRB
    have hnz : (decide ((n : Int) = 0)) = decide (n = 0) := decide_eq_decide.2 (by omega)
    obtain ⟨bz, hbz⟩ : ∃ bz, decide (z = (n : Int)) = bz := ⟨_, rfl⟩
    obtain ⟨b0, hb0⟩ : ∃ b0, decide (n = 0) = b0 := ⟨_, rfl⟩
    rw [hbz, hb0] at HR1
    rw [hb0] at hnz
    have hbz2 : (z == (n : Int)) = bz := by rw [← hbz]; rfl
    have hnz2 : ((n : Int) == 0) = b0 := by rw [← hnz]; rfl
    clear hb0
    go_upto_region 4 with (fail)
    cases fs <;> cases fa <;> cases f <;> cases b1 <;> cases bz <;> cases b0
    all_goals
      go_wp2_with fail
      refine HRI.out.mono ?_
      rintro e w9 ⟨rfl, hb⟩
      have HBE := Lib.hid (F2.out.call hb).below
      rw [HR1.out]
      clear hb F2 HRI c0 c1 c2 c3 c4 c5 HR1
      go_wp2
      go_ret
      exact ⟨rfl, HBE.out⟩
end Go.Proofs.Ytebflcpoecolbaa
