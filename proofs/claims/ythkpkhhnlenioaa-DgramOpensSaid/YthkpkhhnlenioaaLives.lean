/-
  caravellaw08.lives: true. No condition.
-/
import Derived.Test.YthkpkhhnlenioaaOpen
namespace Go.Proofs.Ythkpkhhnlenioaa
open Go.RowKit

theorem ex_bytes : Ec.zero.bytes = [8, 0, 247, 255, 0, 0, 0, 0] := by decide +kernel
theorem ecC_zero (w : World) (lo hi : Nat) : EcC w lo hi zEc Ec.zero := ⟨none, 0, rfl, ⟨by decide, by decide⟩, Rd.nil, Nat.le_refl _, Nat.zero_le _, fun _ => rfl⟩
theorem ecOpen_ex : ecOpen [8, 0, 247, 255, 0, 0, 0, 0] = (Ec.zero, 0) := by
  have := ec_open_bytes (x := Ec.zero) ⟨by decide, by decide⟩
  rwa [ex_bytes] at this
set_option maxRecDepth 100000 in
set_option maxHeartbeats 4000000 in
theorem lives_any (w : World) : Calls Try.prog 10 #[] w fun e w' => e = .returned (.bool true) ∧ Below w.heap.size w w' := by
  have HBU := Lib.hid (build_ec zEc Ec.zero 0 0 0 0 0 0 0 0 0 0 w (ecC_zero _ _ _) (Nat.zero_le _))
  have HEB : Hid (ecBuild Ec.zero = ([8, 0, 247, 255, 0, 0, 0, 0], 0)) := by show _ = _; unfold ecBuild; rw [if_neg (by decide), ex_bytes]
  have a1 := assert_ec
  unfold ecM ipL zEc at HBU
  go_enter Try.func10, Try.ntmps10
  go_wp2_with fail
  refine HBU.out.mono ?_
  rw [HEB.out]
  rintro e w1 ⟨A, c, rfl, ho, hb⟩
  have HB1 := Lib.hid hb
  have hop := open_ec A [8, 0, 247, 255, 0, 0, 0, 0] 8 c 0 w1.heap.size 0 0 0 0 0 0 0 0 w1 ((Rd.own ho).wide (Nat.zero_le _) (Nat.le_refl _)) rfl (own_cap ho).1 (own_cap ho).2 (Nat.le_refl _) (by decide)
  rw [ecOpen_ex] at hop
  unfold ipL at hop
  have HOP := Lib.hid hop
  have HR := Lib.hid ((Rd.own ho).wide (Nat.zero_le _) (Nat.le_refl _))
  clear ho hb hop
  go_wp2_with fail
  refine HOP.out.mono ?_
  rintro e w2 ⟨m, rfl, hb2, hm, -⟩
  obtain ⟨cs, rfl, hcs⟩ := hm rfl
  have hcs2 := hcs
  obtain ⟨A2, c2, hce, -⟩ := hcs2
  have hce2 : cs = #[.bool false, .int .u16 0, .int .u16 0, .slice A2 0 c2] := hce
  subst hce2
  clear hce
  have HB2 := Lib.hid (HB1.out.trans (hb2.mono HB1.out.size))
  have HR2 := Lib.hid (HR.out.below hb2 (Nat.le_refl _))
  have HB3 := Lib.hid (HB2.out.alloc HB2.out.size (.cells #[.bool false, .int .u16 0, .int .u16 0, .slice A2 0 c2] 25))
  have ht : (convert 23 9 (.slice A 8 c)).run Try.prog (w2.alloc (.cells #[.bool false, .int .u16 0, .int .u16 0, .slice A2 0 c2] 25)) = .ok (.string ⟨#[8, 0, 247, 255, 0, 0, 0, 0]⟩) _ := run_text (P := Try.prog) _ 23 9 5 c Try.underlying23 Try.underlying5 Try.underlying9 (HR2.out.alloc hb2.size (.cells #[.bool false, .int .u16 0, .int .u16 0, .slice A2 0 c2] 25))
  have hsm := same_ec #[.bool false, .int .u16 0, .int .u16 0, .slice A2 0 c2] zEc Ec.zero Ec.zero w1.heap.size w2.heap.size 0 0 (w2.alloc (.cells #[.bool false, .int .u16 0, .int .u16 0, .slice A2 0 c2] 25)) (hcs.below ((Below.refl w2.heap.size w2).alloc (Nat.le_refl _) _) (Nat.le_refl _)) (ecC_zero _ _ _) (by simp) (Nat.zero_le _)
  rw [ecEq_self] at hsm
  unfold ecM zEc at hsm
  have HSM := Lib.hid hsm
  clear hcs hm hb2 hsm
  unfold ecM
  go_wp2_with fail
  refine HSM.out.mono ?_
  rintro e w4 ⟨rfl, hb4⟩
  have HB4 := Lib.hid (HB3.out.trans (hb4.mono HB3.out.size))
  clear hb4
  go_wp2
  go_ret
  exact ⟨rfl, HB4.out⟩
end Go.Proofs.Ythkpkhhnlenioaa
