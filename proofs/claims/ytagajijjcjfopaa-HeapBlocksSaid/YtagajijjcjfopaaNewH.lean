/-
  heap.New. Every number. No condition.
-/
import Derived.Test.YtagajijjcjfopaaMarkH
import Derived.Deep.OwnRows
namespace Go.Proofs.Ytagajijjcjfopaa
open Go.RowKit

theorem made_cells (z : Value) (n : Nat) : (madeCells #[z] n).toList = List.replicate n z := by
  refine List.ext_getElem? fun i => ?_
  unfold madeCells
  rw [Array.getElem?_toList, Array.getElem?_map, Array.getElem?_range, List.getElem?_replicate]
  by_cases h : i < n
  · simp [h, Nat.mod_one]
  · simp [h]
theorem made_own (w : World) (b base n : Nat) (z : Value) (e : TypeId) (h : w.heap[b]? = some (.cells (madeCells #[z] n) e (0, 0))) (hb : base ≤ b) (hn : n ≤ maxLen) : w.ownsRow base e 1 (.slice (some ⟨b, 0, none⟩) n n) n (List.replicate n z) :=
  ⟨by simp, .inr ⟨b, n, _, rfl, hb, h, Nat.le_refl _, hn, by rw [size_madeCells, Nat.mul_one], by rw [made_cells, Nat.mul_one]; exact List.take_of_length_le (by simp)⟩⟩

set_option maxRecDepth 100000 in
set_option maxHeartbeats 400000 in
theorem new_any (n : Nat) (w : World) (h1 : 1 ≤ n) (h2 : n ≤ 64) :
    Calls Try.prog 11 #[.int .i64 (n : Int)] w fun e w' => ∃ v', e = .returned (.tuple #[v', .int .i64 0]) ∧ Hp w.heap.size (List.replicate (64 * n) 0) [] (List.replicate n false) v' w' ∧ Below w.heap.size w w' := by
  have hmk1 : ∀ w : World, (Instr.makeSlice 25 (.int .i64 ((n : Int) * 64)) (.int .i64 ((n : Int) * 64))).run Try.prog w = .ok (.slice (some ⟨w.heap.size, 0, none⟩) (64 * n) (64 * n)) (w.alloc (.cells (madeCells #[.int .u8 0] (64 * n)) 5)) := fun w => by
    have := run_make_row' (P := Try.prog) 25 5 (.int .u8 0) 1 Try.underlying25 info_u8 rfl .i64 .i64 (64 * n) (by omega) (by omega) w
    rwa [show ((64 * n : Nat) : Int) = (n : Int) * 64 from by omega] at this
  have hmk2 : ∀ w : World, (Instr.makeSlice 27 (.int .i64 (n : Int)) (.int .i64 (n : Int))).run Try.prog w = .ok (.slice (some ⟨w.heap.size, 0, none⟩) n n) (w.alloc (.cells (madeCells #[.bool false] n) 4)) := fun w =>
    run_make_row' (P := Try.prog) 27 4 (.bool false) 1 Try.underlying27 info_tf rfl .i64 .i64 n (by omega) (by omega) w
  have hwr : IntKind.i64.wrap ((n : Int) * 64) = (n : Int) * 64 := IntWalk.i64_in _ ⟨by omega, by omega⟩
  go_enter Try.func11, Try.ntmps11
  go_wp2
  go_region
  · go_wp2
    refine ret_two (g := w.heap.size) rfl rfl (t := 29) (fr := (0, 0)) (old_alloc (old_alloc (heap_alloc_new w _) _) _) Try.underlying29 rfl (by kernel_rfl) rfl ?_
    refine ⟨_, rfl, ⟨_, _, _, rfl, ?_, ?_, ?_⟩, ?_⟩
    · rw [List.length_replicate, show cells (List.replicate (64 * n) 0) = List.replicate (64 * n) (.int .u8 0) from by simp [cells]]
      refine made_own _ (w.heap.size + 1) _ _ _ _ ?_ (by omega) (by unfold maxLen; omega)
      have := heap_alloc_new (w.alloc (.cells #[.slice (some ⟨w.heap.size + 1, 0, none⟩) (64 * n) (64 * n), .slice none 0 0, .slice (some ⟨w.heap.size + 1 + 1, 0, none⟩) n n] 29)) (.cells (madeCells #[.int .u8 0] (64 * n)) 5)
      rw [World.size_alloc] at this
      exact old_alloc this _
    · exact World.ownsRow_nil _ _ _ _
    · rw [List.length_replicate, show tfs (List.replicate n false) = List.replicate n (.bool false) from by simp [tfs]]
      refine made_own _ (w.heap.size + 1 + 1) _ _ _ _ ?_ (by omega) (by unfold maxLen; omega)
      have := heap_alloc_new ((w.alloc (.cells #[.slice (some ⟨w.heap.size + 1, 0, none⟩) (64 * n) (64 * n), .slice none 0 0, .slice (some ⟨w.heap.size + 1 + 1, 0, none⟩) n n] 29)).alloc (.cells (madeCells #[.int .u8 0] (64 * n)) 5)) (.cells (madeCells #[.bool false] n) 4)
      rwa [World.size_alloc, World.size_alloc] at this
    · exact below_drewN' ((((Below.refl _ _).alloc (Nat.le_refl _) _).alloc (by simp) _).alloc (by simp; omega) _) 1
  · go_wp2
    refine ret_two (g := w.heap.size) rfl rfl (t := 29) (fr := (0, 0)) (old_alloc (old_alloc (heap_alloc_new w _) _) _) Try.underlying29 rfl (by kernel_rfl) rfl ?_
    refine ⟨_, rfl, ⟨_, _, _, rfl, ?_, ?_, ?_⟩, ?_⟩
    · rw [List.length_replicate, show cells (List.replicate (64 * n) 0) = List.replicate (64 * n) (.int .u8 0) from by simp [cells]]
      refine made_own _ (w.heap.size + 1 + 1) _ _ _ _ ?_ (by omega) (by unfold maxLen; omega)
      have := heap_alloc_new ((w.alloc (.cells #[.slice (some ⟨w.heap.size + 1 + 1, 0, none⟩) (64 * n) (64 * n), .slice none 0 0, .slice (some ⟨w.heap.size + 1, 0, none⟩) n n] 29)).alloc (.cells (madeCells #[.bool false] n) 4)) (.cells (madeCells #[.int .u8 0] (64 * n)) 5)
      rwa [World.size_alloc, World.size_alloc] at this
    · exact World.ownsRow_nil _ _ _ _
    · rw [List.length_replicate, show tfs (List.replicate n false) = List.replicate n (.bool false) from by simp [tfs]]
      refine made_own _ (w.heap.size + 1) _ _ _ _ ?_ (by omega) (by unfold maxLen; omega)
      have := heap_alloc_new (w.alloc (.cells #[.slice (some ⟨w.heap.size + 1 + 1, 0, none⟩) (64 * n) (64 * n), .slice none 0 0, .slice (some ⟨w.heap.size + 1, 0, none⟩) n n] 29)) (.cells (madeCells #[.bool false] n) 4)
      rw [World.size_alloc] at this
      exact old_alloc this _
    · exact below_drewN' ((((Below.refl _ _).alloc (Nat.le_refl _) _).alloc (by simp) _).alloc (by simp; omega) _) 1

set_option maxRecDepth 100000 in
set_option maxHeartbeats 400000 in
theorem new_not (n : Int) (w : World) (h : ¬ (1 ≤ n ∧ n ≤ 64)) :
    Calls Try.prog 11 #[.int .i64 n] w fun e w' => e = .returned (.tuple #[.agg #[.slice none 0 0, .slice none 0 0, .slice none 0 0], .int .i64 1]) ∧ Below w.heap.size w w' := by
  by_cases q : n < 1
  · go_enter Try.func11, Try.ntmps11
    go_wp2
    refine ret_two (g := w.heap.size) rfl rfl (t := 29) (fr := (0, 0)) (heap_alloc_new w _) Try.underlying29 rfl (by kernel_rfl) rfl ?_
    exact ⟨rfl, (Below.refl _ _).alloc (Nat.le_refl _) _⟩
  · have q2 : 64 < n := by omega
    clear h
    go_enter Try.func11, Try.ntmps11
    go_wp2
    refine ret_two (g := w.heap.size) rfl rfl (t := 29) (fr := (0, 0)) (heap_alloc_new w _) Try.underlying29 rfl (by kernel_rfl) rfl ?_
    exact ⟨rfl, (Below.refl _ _).alloc (Nat.le_refl _) _⟩
end Go.Proofs.Ytagajijjcjfopaa
