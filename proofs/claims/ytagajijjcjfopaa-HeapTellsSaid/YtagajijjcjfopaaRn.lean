/-
  The document's New; bytes as long as a page. No condition.
-/
import Derived.Test.YtagajijjcjfopaaRg
import Derived.Test.YtagajijjcjfopaaNewH
namespace Go.Proofs.Ytagajijjcjfopaa
open Go.RowKit

theorem new_at1 (w : World) (o p : Obj) : ((w.alloc o).alloc p).heap[w.heap.size + 1]? = some p := by
  have := heap_alloc_new (w.alloc o) p
  rwa [World.size_alloc] at this
theorem new_at2 (w : World) (o p q : Obj) : (((w.alloc o).alloc p).alloc q).heap[w.heap.size + 1 + 1]? = some q := by
  have := heap_alloc_new ((w.alloc o).alloc p) q
  rwa [World.size_alloc, World.size_alloc] at this
theorem page_row (l : List UInt8) : (madeCells #[Value.int .u8 0] 64).toList.take 0 ++ cells l ++ (madeCells #[Value.int .u8 0] 64).toList.drop (0 + (cells l).length) = cells (putB (List.replicate 64 0) 0 l) := by
  rw [made_cells]
  unfold putB
  rw [cells_append, cells_append, cells_length]
  simp [cells]
theorem page_own {w w' : World} {g : Nat} (q : List UInt8) (hg : w.heap.size ≤ g) (h : w'.heap[g]? = some (.cells (cells q).toArray 5 (0, 0))) (hq : q.length = 64) :
    w'.ownsRow w.heap.size 5 1 (.slice (some ⟨g, 0, none⟩) 64 64) 64 (cells q) := by
  have hl2 : (cells q).length = 64 := by rw [cells_length, hq]
  exact ⟨hl2, .inr ⟨g, 64, _, rfl, hg, h, Nat.le_refl _, by unfold maxLen; omega, by simpa using hl2, List.take_of_length_le (by show (cells q).length ≤ 64 * 1; omega)⟩⟩
theorem page_len {l : List UInt8} (h : l.length ≤ 64) : (putB (List.replicate 64 0) 0 l).length = 64 := by rw [putB_length (by rw [List.length_replicate]; omega), List.length_replicate]
theorem zero_text (w : World) (b n : Nat) (h : w.heap[b]? = some (.cells (madeCells #[.int .u8 0] (64 * n)) 5 (0, 0))) (hn : n ≤ 64) :
    (convert 25 9 (.slice (some ⟨b, 0, none⟩) (64 * n) (64 * n))).run Try.prog w = .ok (.string ⟨(List.replicate (64 * n) (0 : UInt8)).toArray⟩) w := by
  have ho := made_own w b 0 (64 * n) (.int .u8 0) 5 h (Nat.zero_le _) (by unfold maxLen; omega)
  have := run_text (P := Try.prog) w 25 9 5 (l := List.replicate (64 * n) (0 : UInt8)) (64 * n) Try.underlying25 Try.underlying5 Try.underlying9 (by rw [show cells (List.replicate (64 * n) 0) = List.replicate (64 * n) (.int .u8 0) from by simp [cells]]; exact ownk_rd ho)
  rwa [List.length_replicate] at this
set_option maxRecDepth 100000 in
set_option maxHeartbeats 8000000 in
theorem refnew_any (n : Nat) (w : World) (h1 : 1 ≤ n) (h2 : n ≤ 64) :
    Calls Try.prog 12 #[.int .i64 (n : Int)] w fun e w' => ∃ v', e = .returned v' ∧ Rf (List.replicate (64 * n) 0) [] (List.replicate n false) v' w' ∧ Below w.heap.size w w' := by
  have hmk1 : ∀ w : World, (Instr.makeSlice 25 (.int .i64 (64 * (n : Int))) (.int .i64 (64 * (n : Int)))).run Try.prog w = .ok (.slice (some ⟨w.heap.size, 0, none⟩) (64 * n) (64 * n)) (w.alloc (.cells (madeCells #[.int .u8 0] (64 * n)) 5)) := fun w => by
    have := run_make_row' (P := Try.prog) 25 5 (.int .u8 0) 1 Try.underlying25 info_u8 rfl .i64 .i64 (64 * n) (by omega) (by omega) w
    rwa [show ((64 * n : Nat) : Int) = 64 * (n : Int) from by omega] at this
  have hmk2 : ∀ w : World, (Instr.makeSlice 27 (.int .i64 (n : Int)) (.int .i64 (n : Int))).run Try.prog w = .ok (.slice (some ⟨w.heap.size, 0, none⟩) n n) (w.alloc (.cells (madeCells #[.bool false] n) 4)) := fun w =>
    run_make_row' (P := Try.prog) 27 4 (.bool false) 1 Try.underlying27 info_tf rfl .i64 .i64 n (by omega) (by omega) w
  have hwr : IntKind.i64.wrap (64 * (n : Int)) = 64 * (n : Int) := IntWalk.i64_in _ ⟨by omega, by omega⟩
  have e1 : ∀ o, ((w.alloc (.cells #[.string ⟨#[]⟩, .slice none 0 0, .slice none 0 0] 35)).alloc o).heap[w.heap.size + 1]? = some o := fun o => by
    have := heap_alloc_new (w.alloc (.cells #[.string ⟨#[]⟩, .slice none 0 0, .slice none 0 0] 35)) o
    rwa [World.size_alloc] at this
  have e2 : ∀ o p, (((w.alloc (.cells #[.string ⟨#[]⟩, .slice none 0 0, .slice none 0 0] 35)).alloc p).alloc o).heap[w.heap.size + 1 + 1]? = some o := fun o p => by
    have := heap_alloc_new ((w.alloc (.cells #[.string ⟨#[]⟩, .slice none 0 0, .slice none 0 0] 35)).alloc p) o
    rwa [World.size_alloc, World.size_alloc] at this
  have hc1 := zero_text ((w.alloc (.cells #[.string ⟨#[]⟩, .slice none 0 0, .slice none 0 0] 35)).alloc (.cells (madeCells #[.int .u8 0] (64 * n)) 5)).drew (w.heap.size + 1) n (e1 _) h2
  have hc2 := zero_text (((w.alloc (.cells #[.string ⟨#[]⟩, .slice none 0 0, .slice none 0 0] 35)).alloc (.cells (madeCells #[.int .u8 0] (64 * n)) 5)).alloc (.cells (madeCells #[.bool false] n) 4)).drew (w.heap.size + 1) n (old_alloc (e1 _) _) h2
  have hc3 := zero_text (((w.alloc (.cells #[.string ⟨#[]⟩, .slice none 0 0, .slice none 0 0] 35)).alloc (.cells (madeCells #[.bool false] n) 4)).alloc (.cells (madeCells #[.int .u8 0] (64 * n)) 5)).drew (w.heap.size + 1 + 1) n (e2 _ _) h2
  go_enter Try.func12, Try.ntmps12
  go_wp2
  go_region
  all_goals go_wp2
  all_goals refine ret_one (g := w.heap.size) rfl rfl (t := 35) (fr := (0, 0)) (old_alloc (old_alloc (heap_alloc_new w _) _) _) Try.underlying35 rfl (by kernel_rfl) rfl ?_
  all_goals refine ⟨_, rfl, ⟨_, _, _, rfl, by simp, World.ownsRow_nil _ _ _ _, ?_⟩, below_drewN' ((((Below.refl _ _).alloc (Nat.le_refl _) _).alloc (by simp) _).alloc (by simp; omega) _) 1⟩
  all_goals rw [List.length_replicate, show tfs (List.replicate n false) = List.replicate n (.bool false) from by simp [tfs]]
  all_goals first
    | (refine made_own _ (w.heap.size + 1 + 1) _ _ _ _ ?_ (by omega) (by unfold maxLen; omega)
       exact new_at2 w _ _ _)
    | (refine made_own _ (w.heap.size + 1) _ _ _ _ ?_ (by omega) (by unfold maxLen; omega)
       exact old_alloc (new_at1 w _ _) _)

set_option maxRecDepth 100000 in
set_option maxHeartbeats 8000000 in
theorem page_any (A : Option Addr) (c m lo hi : Nat) (l : List UInt8) (w : World) (hl : l.length = m) (hm : m ≤ 100000) (hA : A = none → c = 0) (hrd : Rd w lo hi A (cells l)) (hhi : hi ≤ w.heap.size) :
    Calls Try.prog 30 #[.slice A m c] w fun e w' => ∃ g, w.heap.size ≤ g ∧ e = .returned (.slice (some ⟨g, 0, none⟩) 64 64) ∧ w'.ownsRow w.heap.size 5 1 (.slice (some ⟨g, 0, none⟩) 64 64) 64 (cells (putB (List.replicate 64 0) 0 (l.take 64))) ∧ Below w.heap.size w w' := by
  have hmk1 : ∀ w : World, (Instr.makeSlice 25 (.int .i64 64) (.int .i64 64)).run Try.prog w = .ok (.slice (some ⟨w.heap.size, 0, none⟩) 64 64) (w.alloc (.cells (madeCells #[.int .u8 0] 64) 5)) := fun w =>
    run_make_row' (P := Try.prog) 25 5 (.int .u8 0) 1 Try.underlying25 info_u8 rfl .i64 .i64 64 (by omega) (by omega) w
  go_enter Try.func30, Try.ntmps30
  have hms : (madeCells #[Value.int .u8 0] 64).size = 64 := size_madeCells _ _
  have HG1 := heap_alloc_new w (.cells (madeCells #[.int .u8 0] 64) 5)
  have hl64 : (l.take 64).length ≤ 64 := by rw [List.length_take]; omega
  go_upto_region 2 with (fail)
  rcases A with _ | ad
  · have hm0 : m = 0 := by
      rcases l with _ | ⟨b, r⟩
      · exact hl.symm
      · obtain ⟨ad, e, _⟩ := hrd 0 _ rfl
        cases e
    subst hm0
    obtain rfl : c = 0 := hA rfl
    have hln : l = [] := List.length_eq_zero_iff.1 hl
    have hcp := run_copy_none (P := Try.prog) (w.alloc (.cells (madeCells #[.int .u8 0] 64) 5)) 25 25 3 5 (some ⟨w.heap.size, 0, none⟩) none 64 64 0 0 Try.underlying25 (by kernel_rfl) (by simp)
    subst hln
    have hrow : (madeCells #[Value.int .u8 0] 64).toList = cells (putB (List.replicate 64 0) 0 []) := page_row []
    have hmk2 : madeCells #[Value.int .u8 0] 64 = (cells (putB (List.replicate 64 0) 0 [])).toArray := by rw [← hrow]
    have HG2 := HG1
    rw [hmk2] at HG2
    have hfin := page_own (w' := w.alloc (.cells (madeCells #[.int .u8 0] 64) 5)) (putB (List.replicate 64 0) 0 []) (Nat.le_refl w.heap.size) (by rw [hmk2]; exact HG2) (page_len (l := []) (by simp))
    clear hrow hmk2 HG2
    have HFIN := Lib.hid hfin
    clear hfin
    go_wp2
    go_ret
    exact ⟨w.heap.size, Nat.le_refl _, rfl, HFIN.out, (Below.refl w.heap.size w).alloc (Nat.le_refl _) _⟩
  · obtain ⟨n, hn⟩ : ∃ n, (l.take 64).length = n := ⟨_, rfl⟩
    have hnm : n = Nat.min m 64 := by rw [← hn, List.length_take, hl]; exact Nat.min_comm _ _
    have hcp := run_copy_row (P := Try.prog) (w.alloc (.cells (madeCells #[.int .u8 0] 64) 5)) 25 25 3 5 w.heap.size 0 64 64 ad m c _ _ (cells (l.take 64)) Try.underlying25 (by kernel_rfl) HG1 (by rw [cells_length, hn, hnm]) (fun j u hu => by
      rw [← cells_take, List.getElem?_take] at hu
      split at hu
      · obtain ⟨ad', e, _, _, hc⟩ := (hrd.below ((Below.refl w.heap.size w).alloc (Nat.le_refl _) (.cells (madeCells #[.int .u8 0] 64) 5)) hhi) j u hu
        cases e
        exact hc
      · cases hu) (by rw [cells_length, hms]; omega) (cells_one _)
    rw [page_row] at hcp
    have hgo : ∀ k : Nat, k ≤ 64 → ∃ z, goInt k = .int .i64 z := fun k hk => ⟨_, rfl⟩
    rw [cells_length, hn] at hcp
    go_wp2
    go_ret
    refine ⟨w.heap.size, Nat.le_refl _, rfl, ?_, below_setRow ((Below.refl _ _).alloc (Nat.le_refl _) _) (Nat.le_refl _) _⟩
    exact page_own _ (Nat.le_refl _) (setRow_heap _ _ _ _ _ _ HG1) (page_len hl64)
end Go.Proofs.Ytagajijjcjfopaa
