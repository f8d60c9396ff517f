/-
  The chapter's examples, as the statements of layer 1 ask them first: the answer is true, and nothing that was there is turned. Every world.
-/
import Derived.Test.YtclnmihcjkbopaaPut
import Derived.Test.YtclnmihcjkbopaaHex
import Derived.Test.YtclnmihcjkbopaaSplit
import Derived.Lib.SlBytesConst
namespace Go.Proofs.Ytclnmihcjkbopaa
open Go.RowKit

theorem put_300 (w : World) : Calls Try.prog 9 #[.int .u64 300, .int .i64 2] w (PutPost w ([1, 44], 0)) := by
  have h := put_any 300 2 w (by decide)
  have e : putS 300 2 = ([1, 44], 0) := by decide
  rw [e] at h
  exact h

/-- the world in which the example's literals lie -/
def exWorld (w : World) : World :=
  (w.alloc (.cells #[.int .u8 97, .int .u8 98, .int .u8 99, .int .u8 100, .int .u8 101] 5 (5, 6))).alloc (.cells #[.int .i64 1, .int .i64 2] 3)
theorem split_ex (w : World) : Calls Try.prog 13 #[.slice (some ⟨w.heap.size, 0, none⟩) 5 5, .slice (some ⟨w.heap.size + 1, 0, none⟩) 2 2] (exWorld w) (SplitPost (exWorld w) ([[97], [98, 99], [100, 101]], 0)) := by
  have h := split_any (some ⟨w.heap.size, 0, none⟩) (some ⟨w.heap.size + 1, 0, none⟩) [97, 98, 99, 100, 101] [1, 2] 5 2 0 (exWorld w).heap.size (exWorld w)
    (((rd_new w (cells [97, 98, 99, 100, 101]) 5 (5, 6)).alloc (by simp) _).wide (Nat.zero_le _) (by simp [exWorld]))
    (by
      have := rd_new (w.alloc (.cells #[.int .u8 97, .int .u8 98, .int .u8 99, .int .u8 100, .int .u8 101] 5 (5, 6))) (ints [1, 2]) 3 (0, 0)
      rw [World.size_alloc] at this
      exact this.wide (Nat.zero_le _) (by simp [exWorld]))
    (Nat.le_refl _) (by decide) (by decide) (by decide) (by decide)
  have e : splitS [97, 98, 99, 100, 101] [1, 2] = ([[97], [98, 99], [100, 101]], 0) := by decide
  rw [e] at h
  exact h
theorem hex_ex (A : Option Addr) (c lo hi : Nat) (w : World) (h : Rd w lo hi A (cells [1, 44])) (hhi : hi ≤ w.heap.size) :
    Calls Try.prog 16 #[.slice A 2 c] w fun e w' => e = .returned (.string ⟨#[48, 49, 50, 99]⟩) ∧ Below w.heap.size w w' :=
  hex_any A [1, 44] c lo hi w h hhi (by decide)

set_option maxHeartbeats 400000 in
theorem lives_any (w : World) : Calls Try.prog 8 #[] w fun e w' => e = .returned (.bool true) ∧ Below w.heap.size w w' := by
  have kc := fun (w : World) (C : Array Value) (n c : Nat) => Lib.run_convert_bytes_const (P := Try.prog) w 23 5 C n c Try.underlying23 Try.underlying5
  go_enter Try.func8, Try.ntmps8
  go_wp2_with fail
  refine (put_300 _).mono ?_
  rintro e w1 ⟨A1, c1, rfl, hrd1, hb1⟩
  go_wp2_with fail
  clear kc
  refine (split_ex _).mono ?_
  rintro e w2 ⟨A2, c2, vs, rfl, hown2, hpt2, hb2⟩
  have hz2 : w1.heap.size + 2 = (exWorld w1).heap.size := by simp [exWorld]
  have hrd2 : Rd w2 w.heap.size w1.heap.size A1 (cells [1, 44]) := by
    refine Rd.below ?_ hb2 (by omega)
    exact (hrd1.alloc (Nat.le_refl _) _).alloc (by simp) _
  go_wp2_with fail
  have hs2 : w1.heap.size ≤ w2.heap.size := by have := hb2.size; omega
  refine (hex_ex _ _ _ _ _ hrd2 hs2).mono ?_
  rintro e w3 ⟨rfl, hb3⟩
  obtain ⟨A4, c4, hv, hp4⟩ := hpt2.2 1 [98, 99] rfl
  obtain ⟨g, hA, _, hg, hc⟩ := own_at hown2 hv
  have hcell : w3.cell? ⟨g, 1, none⟩ = some (.slice A4 2 c4) := (hb3.cell (p := ⟨g, 1, none⟩) hg).trans hc
  have ht : (convert 23 9 (.slice A4 2 c4)).run Try.prog w3 = .ok (.string ⟨#[98, 99]⟩) w3 :=
    run_text (P := Try.prog) (l := [98, 99]) w3 23 9 5 c4 Try.underlying23 Try.underlying5 Try.underlying9 ((Rd.own hp4).below hb3 (Nat.le_refl _))
  have hB : Below w.heap.size w w3 := (((hb1.alloc hb1.size _).alloc (by have := hb1.size; simp; omega) _).trans (hb2.mono (by have := hb1.size; omega))).trans (hb3.mono (by have := hb1.size; omega))
  clear hc hg hv hp4 hown2 hpt2 hb1 hb2 hb3 hrd1 hrd2
  rw [hA]
  clear hA
  go_wp2
  go_ret
  exact ⟨rfl, hB⟩
end Go.Proofs.Ytclnmihcjkbopaa
