/-
  The chapter's example, as the statements of layer 2 ask it first: the answer is true, and nothing that was there is turned. Every world.
-/
import Derived.Test.YtgpkbmcallbcgaaFold
import Derived.Lib.SlBytesConst
namespace Go.Proofs.Ytgpkbmcallbcgaa
open Go.RowKit

/-- the example's bytes -/
def exL : List UInt8 := [0, 1, 242, 3, 244, 245, 246, 247]
theorem lives_fold (w : World) (W : World) (fr : Nat × Nat) (hW : W = (w.alloc (.cells (cells exL).toArray 5 fr)).alloc (.cells #[.slice (some ⟨w.heap.size, 0, none⟩) 8 8] 22)) :
    Calls Try.prog 9 #[.slice (some ⟨w.heap.size + 1, 0, none⟩) 1 1] W fun e w' => e = .returned (.int .u16 56818) ∧ W = w' := by
  subst hW
  exact fold_any ⟨w.heap.size + 1, 0, none⟩ [.slice (some ⟨w.heap.size, 0, none⟩) 8 8] [exL] 1 _ _ w.heap.size (w.heap.size + 1) 1 exL _ (rd_at _ _ _ _ _ (by simp)) (pts_cons ((rd_new w (cells exL) 5 fr).alloc (by simp) _) rfl pts_nil) rfl (by decide) (by intro p hp; simp at hp; subst hp; decide) rfl
theorem sum_nil (w : World) (W : World) (b : Nat) (hb : b = w.heap.size) (hW : W = w.alloc (.cells #[.slice none 0 0] 22)) :
    Calls Try.prog 11 #[.slice (some ⟨b, 0, none⟩) 1 1] W fun e w' => e = .returned (.int .u16 65535) ∧ W = w' := by
  subst hW
  exact sum_any ⟨b, 0, none⟩ [.slice none 0 0] [[]] 1 _ _ 0 0 1 [] _ (rd_at _ _ _ _ _ hb) (pts_cons Rd.nil rfl pts_nil) rfl (by decide) (by intro p hp; simp at hp; subst hp; decide) rfl

set_option maxHeartbeats 400000 in
theorem lives_any (w : World) : Calls Try.prog 8 #[] w fun e w' => e = .returned (.bool true) ∧ Below w.heap.size w w' := by
  have kc := fun (w : World) (C : Array Value) (n c : Nat) => Lib.run_convert_bytes_const (P := Try.prog) w 22 5 C n c Try.underlying22 Try.underlying5
  go_enter Try.func8, Try.ntmps8
  go_wp2_with fail
  refine (lives_fold w _ _ rfl).mono ?_
  rintro e w1 ⟨rfl, rfl⟩
  go_wp2_with fail
  refine (sum_nil _ _ _ (by simp) rfl).mono ?_
  rintro e w1 ⟨rfl, rfl⟩
  go_wp2_with fail
  go_ret
  exact ⟨rfl, bal (bal (bal (Below.refl _ _) _) _) _⟩
end Go.Proofs.Ytgpkbmcallbcgaa
