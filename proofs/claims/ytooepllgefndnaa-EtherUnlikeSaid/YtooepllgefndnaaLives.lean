/-
  The chapter's example, as the statements of layer 5 ask it first: the answer is true, and nothing that was there is turned. Every world.
-/
import Derived.Test.YtooepllgefndnaaHold
import Derived.Lib.SlBytesConst
namespace Go.Proofs.Ytooepllgefndnaa
open Go.RowKit

def exF : Fr := ⟨[0, 0, 0, 0, 0, 0], [0, 0, 0, 0, 0, 0], 2054, [120]⟩
theorem exF_ok : exF.ok := ⟨rfl, rfl, by decide⟩
theorem exF_length : exF.bytes.length = 15 := Fr.bytes_length exF_ok
theorem build_ex (w : World) : Calls Try.prog 10 #[.agg #[.int .u8 0, .int .u8 0, .int .u8 0, .int .u8 0, .int .u8 0, .int .u8 0, .int .u8 0, .int .u8 0, .int .u8 0, .int .u8 0, .int .u8 0, .int .u8 0, .int .u16 2054, .slice (some ⟨w.heap.size, 0, none⟩) 1 1]] (w.alloc (.cells #[.int .u8 120] 5 (1, 2)))
    fun e w' => ∃ A c, e = .returned (.tuple #[.slice A 15 c, .int .i64 0]) ∧ OwnB w' (w.heap.size + 1) (.slice A 15 c) exF.bytes ∧ Below (w.heap.size + 1) (w.alloc (.cells #[.int .u8 120] 5 (1, 2))) w' := by
  have h := build_any #[.int .u8 0, .int .u8 0, .int .u8 0, .int .u8 0, .int .u8 0, .int .u8 0, .int .u8 0, .int .u8 0, .int .u8 0, .int .u8 0, .int .u8 0, .int .u8 0, .int .u16 2054, .slice (some ⟨w.heap.size, 0, none⟩) 1 1] exF (w.alloc (.cells #[.int .u8 120] 5 (1, 2))) w.heap.size (w.heap.size + 1)
    ⟨some ⟨w.heap.size, 0, none⟩, 1, rfl, exF_ok, rd_new w (cells [120]) 5 (1, 2), Nat.le_refl _, by unfold maxLen; omega, fun h => by cases h⟩ (by simp)
  have e : buildS exF = (exF.bytes, 0) := by unfold buildS; rw [if_neg (by decide)]
  rw [e] at h
  unfold OwnPost at h
  simp only [exF_length, World.size_alloc] at h
  exact h
theorem parse_ex (A : Option Addr) (c : Nat) (w : World) (B : Nat) (h : OwnB w B (.slice A 15 c) exF.bytes) : Calls Try.prog 12 #[.slice A 15 c] w (ParsePost w (exF, 0)) := by
  unfold OwnB at h
  rw [exF_length] at h
  obtain ⟨h1, h2⟩ := own_cap h
  have := parse_any A exF.bytes c B w.heap.size w (Rd.own h) (Nat.le_refl _) (by rw [exF_length]; exact h1) h2
  have e := parse_build exF_ok (by decide)
  have e2 : buildS exF = (exF.bytes, 0) := by unfold buildS; rw [if_neg (by decide)]
  rw [e2] at e
  rw [e, exF_length] at this
  exact this

set_option maxRecDepth 100000 in
set_option maxHeartbeats 1000000 in
theorem lives_any (w : World) : Calls Try.prog 9 #[] w fun e w' => e = .returned (.bool true) ∧ Below w.heap.size w w' := by
  have kc := fun (w : World) (C : Array Value) (n c : Nat) => Lib.run_convert_bytes_const (P := Try.prog) w 25 5 C n c Try.underlying25 Try.underlying5
  go_enter Try.func9, Try.ntmps9
  go_wp2_with fail
  clear kc
  refine (build_ex w).mono ?_
  rintro e w1 ⟨A1, c1, rfl, ho1, hb1⟩
  have HB1 : Hid (Below w.heap.size w w1) := (((Below.refl _ _).alloc (Nat.le_refl _) _).trans (hb1.mono (by simp)))
  have HO1 := Lib.hid ho1
  clear ho1 hb1
  go_wp2_with fail
  refine (parse_ex A1 c1 w1 _ HO1.out).mono ?_
  rintro e w2 ⟨cs, rfl, hf, hb2⟩
  have HB2 : Hid (Below w.heap.size w (w2.alloc (.cells cs 27))) := (HB1.out.trans (hb2.mono HB1.out.size)).alloc ((HB1.out.trans (hb2.mono HB1.out.size)).size) _
  have HS := Lib.hid hf.size
  have HO := Lib.hid hf.one
  obtain ⟨A, c, h12, h13, hr, _, _, _⟩ := hf.parts
  have ht := run_text (P := Try.prog) (w2.alloc (.cells cs 27)) 25 9 5 c Try.underlying25 Try.underlying5 Try.underlying9 (hr.alloc (Nat.le_refl _) _)
  simp only [exF, List.length_cons, List.length_nil, Nat.zero_add] at h12 h13 ht
  clear hb2 hf hr
  go_wp2_with (refine wpList_store_new rfl 27 _ _ rfl w2 #[.int .u8 0, .int .u8 0, .int .u8 0, .int .u8 0, .int .u8 0, .int .u8 0, .int .u8 0, .int .u8 0, .int .u8 0, .int .u8 0, .int .u8 0, .int .u8 0, .int .u16 0, .slice none 0 0] cs rfl rfl (size_fr HS.out) HS.out.symm HO.out ?_)
  go_ret
  exact ⟨rfl, HB2.out⟩
end Go.Proofs.Ytooepllgefndnaa
