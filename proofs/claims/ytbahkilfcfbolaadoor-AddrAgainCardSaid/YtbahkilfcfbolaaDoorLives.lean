/-
  The chapter's example, as the statements of layer 4 ask it first: the answer is true, and nothing that was there is turned. Every world in which the table lies.
-/
import Derived.Test.YtbahkilfcfbolaaDoorReadMac
namespace Go.Proofs.YtbahkilfcfbolaaDoor
open Go.RowKit

def exT : List UInt8 := [49, 48, 46, 48, 46, 48, 46, 49, 58, 56, 48]
theorem exT_is : adT [10, 0, 0, 1] 80 = exT := by
  unfold adT ipT
  simp only [List.map_cons, List.map_nil]
  rw [join_two, join_two, join_two, Lib.join_one]
  rw [show ((10 : UInt8)).toNat = 10 from rfl, show ((0 : UInt8)).toNat = 0 from rfl, show ((1 : UInt8)).toNat = 1 from rfl]
  rw [dec_big (n := 10) (by omega), dec_big (n := 80) (by omega), dec_small (n := 0) (by omega), dec_small (n := 1) (by omega), dec_small (n := 80 / 10) (by omega)]
  rfl
theorem read_ex (w : World) (hR : Ready w) :
    Calls Tryd.prog 10 #[.string ⟨#[49, 48, 46, 48, 46, 48, 46, 49, 58, 56, 48]⟩] w fun e w' => e = .returned (.tuple #[.agg #[.int .u8 10, .int .u8 0, .int .u8 0, .int .u8 1, .int .u16 80], .int .i64 0]) ∧ Below w.heap.size w w' := by
  have h := read_any exT w (by decide) hR
  rw [← exT_is, adOf_hit [10, 0, 0, 1] 80 rfl (by omega)] at h
  rw [exT_is] at h
  exact h
theorem write_ex (w : World) (hR : Ready w) :
    Calls Tryd.prog 14 #[.agg #[.int .u8 10, .int .u8 0, .int .u8 0, .int .u8 1, .int .u16 80]] w fun e w' => e = .returned (.string ⟨#[49, 48, 46, 48, 46, 48, 46, 49, 58, 56, 48]⟩) ∧ Below w.heap.size w w' := by
  have h := write_any [10, 0, 0, 1] 80 w rfl (by omega) hR
  rw [exT_is] at h
  exact h
def exM : List UInt8 := [102, 102, 58, 102, 102, 58, 102, 102, 58, 102, 102, 58, 102, 102, 58, 102, 102]
theorem exM_is : macT [255, 255, 255, 255, 255, 255] = exM := by decide
theorem writemac_ex (w : World) :
    Calls Tryd.prog 20 #[.agg #[.int .u8 255, .int .u8 255, .int .u8 255, .int .u8 255, .int .u8 255, .int .u8 255]] w fun e w' => e = .returned (.string ⟨#[102, 102, 58, 102, 102, 58, 102, 102, 58, 102, 102, 58, 102, 102, 58, 102, 102]⟩) ∧ Below w.heap.size w w' := by
  have h := writemac_any [255, 255, 255, 255, 255, 255] w rfl
  rw [exM_is] at h
  exact h

set_option maxRecDepth 100000 in
set_option maxHeartbeats 1000000 in
theorem lives_any (w : World) (hR : Ready w) : Calls Tryd.prog 9 #[] w fun e w' => e = .returned (.bool true) ∧ Below w.heap.size w w' := by
  go_enter Tryd.func9, Tryd.ntmps9
  go_wp2_with fail
  refine (read_ex _ hR).mono ?_
  rintro e w1 ⟨rfl, hb1⟩
  have HB1 := Lib.hid hb1
  clear hb1
  go_wp2_with fail
  have HB2 := Lib.hid (HB1.out.alloc HB1.out.size (.cells #[.int .u8 10, .int .u8 0, .int .u8 0, .int .u8 1, .int .u16 80] 26))
  refine (write_ex _ (hR.below HB2.out (Nat.le_refl _))).mono ?_
  rintro e w2 ⟨rfl, hb2⟩
  have HB3 := Lib.hid (HB2.out.trans (hb2.mono HB2.out.size))
  clear hb2
  go_wp2_with fail
  refine (all_any _).mono ?_
  rintro e w3 ⟨rfl, hb3⟩
  have HB4 := Lib.hid (HB3.out.trans (hb3.mono HB3.out.size))
  clear hb3
  rw [show (cells [255, 255, 255, 255, 255, 255]).toArray = #[.int .u8 255, .int .u8 255, .int .u8 255, .int .u8 255, .int .u8 255, .int .u8 255] from rfl]
  go_wp2_with fail
  refine (writemac_ex _).mono ?_
  rintro e w4 ⟨rfl, hb4⟩
  have HB5 := Lib.hid (HB4.out.trans (hb4.mono HB4.out.size))
  clear hb4
  go_wp2
  go_ret
  exact ⟨rfl, HB5.out⟩
end Go.Proofs.YtbahkilfcfbolaaDoor
