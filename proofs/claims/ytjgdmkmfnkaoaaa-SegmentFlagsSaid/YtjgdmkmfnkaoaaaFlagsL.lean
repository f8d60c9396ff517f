/-
  The law SegmentFlags: every byte, every text. No condition.
-/
import Derived.Test.YtjgdmkmfnkaoaaaShapesS
namespace Go.Proofs.Ytjgdmkmfnkaoaaa
open Go.RowKit

set_option maxRecDepth 100000 in
set_option maxHeartbeats 4000000 in
theorem flagslaw_any (y : UInt8) (s : List UInt8) (w : World) (hs : s.length ≤ 140737488351232) :
    Calls Try.prog 6 #[.int .u8 (y.toNat : Int), .string ⟨s.toArray⟩] w fun e w' => e = .returned (.bool true) ∧ Below w.heap.size w w' := by
  have hyl := y.toNat_lt
  obtain ⟨f, hf⟩ : ∃ f, y.toNat = f := ⟨_, rfl⟩
  rw [hf] at hyl ⊢
  have hm : (f : Int) % 32 = ((f % 32 : Nat) : Int) := by omega
  have hm32 : f % 32 < 32 := by omega
  have HS1 := Lib.hid (fun w => sread_any s w)
  have HS2 := Lib.hid (fun w => rread_any s w)
  have HF1 := Lib.hid (fun w => sflags_any f (by omega) w)
  have HF2 := Lib.hid (fun w => rflags_any (f % 32) (by omega) w)
  have HF3 := Lib.hid (fun w => sread_any (flagsT f) w)
  have HRF : Hid (readFlags (flagsT f) = (f % 32, 0)) := by show _ = _; rw [← flagsT_mod]; exact read_flags _ hm32
  rw [flagsT_mod] at HF2
  rw [HRF.out] at HF3
  generalize f % 32 = g at *
  obtain ⟨r, z, hrz⟩ : ∃ r z, readFlags s = (r, z) := ⟨_, _, rfl⟩
  rw [hrz] at HS1 HS2
  generalize flagsT f = t at *
  unfold txt at HS1 HS2 HF1 HF2 HF3
  clear hrz hf HRF
  go_enter Try.func6, Try.ntmps6
  go_wp2_with fail
  refine (lives_any _).mono ?_
  rintro e w2 ⟨rfl, hb2⟩
  have HB2 := Lib.hid hb2
  clear hb2
  by_cases hl : 50 < s.length
  · go_wp2_with fail
    refine (lives_any _).mono ?_
    rintro e w3 ⟨rfl, hb3⟩
    have HB3 := Lib.hid (HB2.out.trans (hb3.mono HB2.out.size))
    clear hb3
    go_wp2
    go_ret
    exact ⟨rfl, HB3.out⟩
  go_wp2_with fail
  refine (HS1.out _).mono ?_
  rintro e w3 ⟨rfl, hb⟩
  have HB3 := Lib.hid (HB2.out.trans (hb.mono HB2.out.size))
  clear hb
  go_wp2_with fail
  refine (HS2.out _).mono ?_
  rintro e w4 ⟨rfl, rfl⟩
  go_wp2_with fail
  refine (HF1.out _).mono ?_
  rintro e w5 ⟨rfl, hb⟩
  have HB5 := Lib.hid (HB3.out.trans (hb.mono HB3.out.size))
  clear hb
  go_wp2_with fail
  refine (HF3.out _).mono ?_
  rintro e w6 ⟨rfl, hb⟩
  have HB6 := Lib.hid (HB5.out.trans (hb.mono HB5.out.size))
  clear hb
  go_wp2_with fail
  refine (HF1.out _).mono ?_
  rintro e w7 ⟨rfl, hb⟩
  have HB7 := Lib.hid (HB6.out.trans (hb.mono HB6.out.size))
  clear hb
  go_wp2_with fail
  refine (HF2.out _).mono ?_
  rintro e w8 ⟨rfl, rfl⟩
  go_wp2
  go_ret
  exact ⟨rfl, HB7.out⟩
end Go.Proofs.Ytjgdmkmfnkaoaaa
