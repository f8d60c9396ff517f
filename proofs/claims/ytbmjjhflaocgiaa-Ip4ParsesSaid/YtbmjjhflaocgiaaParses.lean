/-
  Ip4Parses returns true for every slice of bytes, and turns nothing that was there.
-/
import Derived.Test.YtbmjjhflaocgiaaLives
import Derived.Test.YtbmjjhflaocgiaaRefParse
import Derived.Test.YtbmjjhflaocgiaaShape
namespace Go.Proofs.Ytbmjjhflaocgiaa
open Go.RowKit

set_option maxHeartbeats 1000000 in
theorem parses_big (A : Option Addr) (n c : Nat) (w : World) (hn : 400 < n) (hm : n ≤ 9223372036854775807) :
    Calls Try.prog 4 #[.slice A n c] w fun e w' => e = .returned (.bool true) ∧ Below w.heap.size w w' := by
  go_enter Try.func4, Try.ntmps4
  go_wp2_with fail
  refine (lives_any _).mono ?_
  rintro e w1 ⟨rfl, hb1⟩
  go_wp2_with fail
  refine (lives_any _).mono ?_
  rintro e w2 ⟨rfl, hb2⟩
  have HB := Lib.hid (hb1.trans (hb2.mono hb1.size))
  clear hb1 hb2
  go_wp2
  go_ret
  exact ⟨rfl, HB.out⟩

set_option maxRecDepth 100000 in
set_option maxHeartbeats 1000000 in
theorem parses_walk (A : Option Addr) (l : List UInt8) (n c : Nat) (w : World) (hl : l.length = n) (hn : n ≤ 400) (h : Rd w 0 w.heap.size A (cells l)) (hc : n ≤ c) (hm : c ≤ maxLen) :
    Calls Try.prog 4 #[.slice A n c] w fun e w' => e = .returned (.bool true) ∧ Below w.heap.size w w' := by
  obtain ⟨r, hr⟩ : ∃ r, parseP l = r := ⟨_, rfl⟩
  obtain ⟨f, er⟩ := r
  have HRR := Lib.hid hr
  have HL := Lib.hid hl
  have HR := Lib.hid h
  have HM := Lib.hid hm
  have HC := Lib.hid hc
  clear hr hl h hm hc
  go_enter Try.func4, Try.ntmps4
  go_wp2_with fail
  refine (lives_any _).mono ?_
  rintro e w1 ⟨rfl, hb1⟩
  have HB1 := Lib.hid hb1
  clear hb1
  go_wp2_with fail
  have hp := parse_len A l n c w.heap.size w1 HL.out (HR.out.below HB1.out (Nat.le_refl _)) HB1.out.size HC.out (by omega) HM.out
  rw [HRR.out] at hp
  refine hp.mono ?_
  rintro e w2 ⟨cs, rfl, hf, hb2⟩
  have HF2 := Lib.hid ((hf.alloc (Nat.le_refl _) (.cells cs 27)).wide (Nat.zero_le _) (Nat.le_refl _))
  have hB2 := HB1.out.trans (hb2.mono HB1.out.size)
  have HB2 := Lib.hid (hB2.alloc hB2.size (.cells cs 27))
  have HX2 := Lib.hid (heap_alloc_new w2 (.cells cs 27))
  have HS2 := Lib.hid hf.size
  have HO2 := Lib.hid hf.one
  have HZ2 : Hid (w2.heap.size ≤ (w2.alloc (.cells cs 27)).heap.size) := by show _ ≤ _; simp
  have ht := run_text (P := Try.prog) (w2.alloc (.cells cs 27)) 25 9 5 c Try.underlying25 Try.underlying5 Try.underlying9 (HR.out.below HB2.out (Nat.le_refl _))
  rw [HL.out] at ht
  clear hp hf hb2 hB2
  go_wp2_with (refine wpList_store_new rfl 27 _ _ rfl w2 #[.int .u16 0, .bool false, .int .i64 0, .int .u8 0, .int .u8 0, .int .u8 0, .int .u8 0, .int .u8 0, .int .u8 0, .int .u8 0, .int .u8 0, .int .u8 0, .int .u8 0, .slice none 0 0] cs rfl rfl (size_pk HS2.out) HS2.out.symm HO2.out ?_)
  clear ht
  generalize w2.alloc (.cells cs 27) = w3 at HF2 HB2 HX2 HZ2 ⊢
  have hp := refparse_any l w3 (by have := HL.out; omega)
  rw [HRR.out] at hp
  refine hp.mono ?_
  rintro e w4 ⟨ds, rfl, hf, hb4⟩
  have HF4 := Lib.hid ((hf.alloc (Nat.le_refl _) (.cells ds 27)).wide (Nat.zero_le _) (Nat.le_refl _))
  have HG4 := Lib.hid ((HF2.out.below hb4 HZ2.out).alloc (Nat.le_trans HZ2.out hb4.size) (.cells ds 27))
  have hB4 := HB2.out.trans (hb4.mono HB2.out.size)
  have HB4 := Lib.hid (hB4.alloc hB4.size (.cells ds 27))
  have HX4 := Lib.hid (old_alloc ((hb4.block _ (row_lt HX2.out)).trans HX2.out) (.cells ds 27))
  have HY4 := Lib.hid (heap_alloc_new w4 (.cells ds 27))
  have HS4 := Lib.hid hf.size
  have HO4 := Lib.hid hf.one
  have HZ4 : Hid (w2.heap.size ≤ (w4.alloc (.cells ds 27)).heap.size ∧ w4.heap.size ≤ (w4.alloc (.cells ds 27)).heap.size) := by
    have := HZ2.out
    have := hb4.size
    refine ⟨?_, ?_⟩ <;> simp <;> omega
  clear hp hf hb4 hB4
  go_wp2_with (first | refine wpList_store_new rfl 27 _ _ rfl w4 #[.int .u16 0, .bool false, .int .i64 0, .int .u8 0, .int .u8 0, .int .u8 0, .int .u8 0, .int .u8 0, .int .u8 0, .int .u8 0, .int .u8 0, .int .u8 0, .int .u8 0, .slice none 0 0] ds rfl rfl (size_pk HS4.out) HS4.out.symm HO4.out ?_ | refine wpList_load_rowg rfl 27 _ rfl w2.heap.size rfl _ cs _ _ HX4.out Try.underlying27 rfl (size_pk HS2.out) ?_ | refine wpList_load_rowg rfl 27 _ rfl w4.heap.size rfl _ ds _ _ HY4.out Try.underlying27 rfl (size_pk HS4.out) ?_)
  refine (same_any cs ds f f _ _ _ _ _ HG4.out HF4.out HZ4.out.1 HZ4.out.2).mono ?_
  rintro e w5 ⟨rfl, hb5⟩
  rw [pkEq_self]
  have HB5 := Lib.hid (HB4.out.trans (hb5.mono HB4.out.size))
  clear hb5
  go_wp2
  go_ret
  exact ⟨rfl, HB5.out⟩
end Go.Proofs.Ytbmjjhflaocgiaa
