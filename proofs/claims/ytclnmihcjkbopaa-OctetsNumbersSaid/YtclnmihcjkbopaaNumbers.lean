/-
  OctetsNumbers returns true for every n and size and every bytes, and turns nothing that was there.
-/
import Derived.Test.YtclnmihcjkbopaaLives
import Derived.Test.YtclnmihcjkbopaaGet
import Derived.Test.YtclnmihcjkbopaaRef
namespace Go.Proofs.Ytclnmihcjkbopaa
open Go.RowKit

theorem numbers_big (n : Nat) (size : Int) (A : Option Addr) (L c : Nat) (w : World) (h : 100 < L) (hm : L ≤ maxLen) :
    Calls Try.prog 3 #[.int .u64 n, .int .i64 size, .slice A L c] w fun e w' => e = .returned (.bool true) ∧ Below w.heap.size w w' := by
  unfold maxLen at hm
  go_enter Try.func3, Try.ntmps3
  go_wp2_with fail
  refine (lives_any _).mono ?_
  rintro e w1 ⟨rfl, hb1⟩
  go_wp2_with fail
  refine (lives_any _).mono ?_
  rintro e w2 ⟨rfl, hb2⟩
  go_wp2
  go_ret
  exact ⟨rfl, hb1.trans (hb2.mono hb1.size)⟩

set_option maxHeartbeats 400000 in
theorem numbers_walk (n : Nat) (size : Int) (A : Option Addr) (l : List UInt8) (c : Nat) (w : World) (hn : n < 2 ^ 64) (hl : l.length ≤ 100) (hrd : Rd w 0 w.heap.size A (cells l)) :
    Calls Try.prog 3 #[.int .u64 n, .int .i64 size, .slice A l.length c] w fun e w' => e = .returned (.bool true) ∧ Below w.heap.size w w' := by
  obtain ⟨r, hr⟩ : ∃ r, putS n size = r := ⟨_, rfl⟩
  obtain ⟨g, hg⟩ : ∃ g, getS l = g := ⟨_, rfl⟩
  go_enter Try.func3, Try.ntmps3
  go_wp2_with fail
  refine (lives_any _).mono ?_
  rintro e w1 ⟨rfl, hb1⟩
  go_wp2_with fail
  have hput := put_any n size w1 hn
  rw [hr] at hput
  refine hput.mono ?_
  rintro e w2 ⟨A2, c2, rfl, hrd2, hb2⟩
  clear hput
  have HR := Lib.hid hr
  have HG := Lib.hid hg
  clear hr hg
  go_wp2_with fail
  have href := refput_any n size w2 hn
  rw [HR.out] at href
  refine href.mono ?_
  rintro e w3 ⟨rfl, hb3⟩
  clear href
  have hB3 : Below w.heap.size w w3 := (hb1.trans (hb2.mono hb1.size)).trans (hb3.mono (Nat.le_trans hb1.size hb2.size))
  have hr3 : Rd w3 0 w.heap.size A (cells l) := hrd.below hB3 (Nat.le_refl _)
  go_wp2_with fail
  have hget := get_any A l c 0 _ w3 hr3 (by unfold maxLen; omega)
  rw [HG.out] at hget
  refine hget.mono ?_
  rintro e w4 ⟨rfl, rfl⟩
  clear hget
  have ht : (convert 23 9 (.slice A l.length c)).run Try.prog w3 = .ok (txt l) w3 := run_text (P := Try.prog) w3 23 9 5 c Try.underlying23 Try.underlying5 Try.underlying9 hr3
  go_wp2_with fail
  have hget := refget_any l w3 (by unfold maxLen; omega)
  rw [HG.out] at hget
  refine hget.mono ?_
  rintro e w4 ⟨rfl, rfl⟩
  clear hget ht
  have ht : (convert 23 9 (.slice A2 r.1.length c2)).run Try.prog w3 = .ok (txt r.1) w3 := run_text (P := Try.prog) w3 23 9 5 c2 Try.underlying23 Try.underlying5 Try.underlying9 (hrd2.below hb3 (Nat.le_refl _))
  clear hrd hrd2 hr3 hb1 hb2 hb3 hn hl
  go_wp2
  go_ret
  exact ⟨rfl, hB3⟩
end Go.Proofs.Ytclnmihcjkbopaa
