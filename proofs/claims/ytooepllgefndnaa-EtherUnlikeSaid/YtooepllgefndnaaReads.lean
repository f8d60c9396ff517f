/-
  EtherReads returns true for every slice of bytes, and turns nothing that was there.
-/
import Derived.Test.YtooepllgefndnaaLives
import Derived.Test.YtooepllgefndnaaRefParseArp
import Derived.Test.YtooepllgefndnaaEqAr
import Derived.Test.YtooepllgefndnaaShape
namespace Go.Proofs.Ytooepllgefndnaa
open Go.RowKit

theorem parsearp_len (A : Option Addr) (l : List UInt8) (n c lo hi : Nat) (w : World) (hn : l.length = n) (h : Rd w lo hi A (cells l)) (hhi : hi ≤ w.heap.size) (hl : n ≤ 1000000000) (hc : n ≤ c) (hm : c ≤ maxLen) :
    Calls Try.prog 17 #[.slice A n c] w (ArpPost w (parseA l)) := by
  subst hn
  exact parsearp_any A l c lo hi w h hhi hl hc hm

set_option maxHeartbeats 1000000 in
theorem reads_big (A : Option Addr) (n c : Nat) (w : World) (hn : 400 < n) (hm : n ≤ 9223372036854775807) :
    Calls Try.prog 6 #[.slice A n c] w fun e w' => e = .returned (.bool true) ∧ Below w.heap.size w w' := by
  go_enter Try.func6, Try.ntmps6
  go_wp2_with fail
  refine (lives_any _).mono ?_
  rintro e w1 ⟨rfl, hb1⟩
  go_wp2_with fail
  refine (lives_any _).mono ?_
  rintro e w2 ⟨rfl, hb2⟩
  have HB := Lib.hid (hb1.trans (hb2.mono hb1.size))
  clear hb1 hb2
  go_wp2
  go_ret
  exact ⟨rfl, HB.out⟩

set_option maxRecDepth 100000 in
set_option maxHeartbeats 1000000 in
theorem reads_walk (A : Option Addr) (l : List UInt8) (n c : Nat) (w : World) (hl : l.length = n) (hn : n ≤ 400) (h : Rd w 0 w.heap.size A (cells l)) (hc : n ≤ c) (hm : c ≤ maxLen) :
    Calls Try.prog 6 #[.slice A n c] w fun e w' => e = .returned (.bool true) ∧ Below w.heap.size w w' := by
  obtain ⟨r, hr⟩ : ∃ r, parseA l = r := ⟨_, rfl⟩
  obtain ⟨f, er⟩ := r
  have HRR := Lib.hid hr
  have HL := Lib.hid hl
  have HR := Lib.hid h
  have HM := Lib.hid hm
  have HC := Lib.hid hc
  clear hr hl h hm hc
  go_enter Try.func6, Try.ntmps6
  go_wp2_with fail
  refine (lives_any _).mono ?_
  rintro e w1 ⟨rfl, hb1⟩
  have HB1 := Lib.hid hb1
  clear hb1
  go_wp2_with fail
  have hp := parsearp_len A l n c 0 w.heap.size w1 HL.out (HR.out.below HB1.out (Nat.le_refl _)) HB1.out.size (by omega) HC.out HM.out
  rw [HRR.out] at hp
  refine hp.mono ?_
  rintro e w2 ⟨cs, rfl, hf, hb2⟩
  have HF := Lib.hid hf
  have hB2 := HB1.out.trans (hb2.mono HB1.out.size)
  have HB2 := Lib.hid (hB2.alloc hB2.size (.cells cs 44))
  have HX2 := Lib.hid (heap_alloc_new w2 (.cells cs 44))
  have HS2 := Lib.hid hf.size
  have HO2 := Lib.hid hf.one
  have ht := run_text (P := Try.prog) (w2.alloc (.cells cs 44)) 25 9 5 c Try.underlying25 Try.underlying5 Try.underlying9 (HR.out.below HB2.out (Nat.le_refl _))
  rw [HL.out] at ht
  clear hp hf hb2 hB2
  go_wp2_with (refine wpList_store_new rfl 44 _ _ rfl w2 #[.int .i64 0, .int .u8 0, .int .u8 0, .int .u8 0, .int .u8 0, .int .u8 0, .int .u8 0, .int .u8 0, .int .u8 0, .int .u8 0, .int .u8 0, .int .u8 0, .int .u8 0, .int .u8 0, .int .u8 0, .int .u8 0, .int .u8 0, .int .u8 0, .int .u8 0, .int .u8 0, .int .u8 0] cs rfl rfl (size_ar HS2.out) HS2.out.symm HO2.out ?_)
  clear ht
  generalize w2.alloc (.cells cs 44) = w3 at HB2 HX2 ⊢
  have hp := refparsearp_any l w3 (by have := HL.out; omega)
  rw [HRR.out] at hp
  refine hp.mono ?_
  rintro e w4 ⟨ds, rfl, hf, hb4⟩
  have hB4 := HB2.out.trans (hb4.mono HB2.out.size)
  have HB4 := Lib.hid (hB4.alloc hB4.size (.cells ds 44))
  have HX4 := Lib.hid (old_alloc ((hb4.block _ (row_lt HX2.out)).trans HX2.out) (.cells ds 44))
  have HY4 := Lib.hid (heap_alloc_new w4 (.cells ds 44))
  have HS4 := Lib.hid hf.size
  have HO4 := Lib.hid hf.one
  have he := eq_arps 9997 cs ds f f HF.out hf true (arEq_self f)
  clear hp hf hb4 hB4
  go_wp2_with (first | refine wpList_store_new rfl 44 _ _ rfl w4 #[.int .i64 0, .int .u8 0, .int .u8 0, .int .u8 0, .int .u8 0, .int .u8 0, .int .u8 0, .int .u8 0, .int .u8 0, .int .u8 0, .int .u8 0, .int .u8 0, .int .u8 0, .int .u8 0, .int .u8 0, .int .u8 0, .int .u8 0, .int .u8 0, .int .u8 0, .int .u8 0, .int .u8 0] ds rfl rfl (size_ar HS4.out) HS4.out.symm HO4.out ?_ | refine wpList_load_row rfl 44 _ rfl w2.heap.size rfl _ cs _ _ HX4.out Try.underlying44 rfl (size_ar HS2.out) ?_ | refine wpList_load_row rfl 44 _ rfl w4.heap.size rfl _ ds _ _ HY4.out Try.underlying44 rfl (size_ar HS4.out) ?_)
  go_ret
  exact ⟨rfl, HB4.out⟩
end Go.Proofs.Ytooepllgefndnaa
