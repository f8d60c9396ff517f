/-
  The function value of the law FragHolds: the two pieces that it hands out. No condition.
-/
import Derived.Test.YtogplhdcicajgaaHoldsM
namespace Go.Proofs.Ytogplhdcicajgaa
open Go.RowKit

set_option maxRecDepth 100000 in
set_option maxHeartbeats 4000000 in
theorem piece_first (id b : Nat) (hid : id < 65536) (w : World) :
    Calls Try.prog 9 #[.int .i64 (id : Int), .bool false, .pointer (some ⟨b, 0, none⟩)] w fun e w' => ∃ ds, e = .returned (.agg ds) ∧ PkT w' 0 ds.toList (p0H id) ∧ Below w.heap.size w w' := by
  have hu : IntKind.u16.wrap (id : Int) = (id : Int) := IntWalk.u16_in _ ⟨by omega, by omega⟩
  have HMK : Hid (∀ W : World, (Instr.makeSlice 25 (.int .i64 176) (.int .i64 176)).run Try.prog W = .ok (.slice (some ⟨W.heap.size, 0, none⟩) 176 176) (W.alloc (.cells (cells zer).toArray 5))) := fun W => make_row 176 (by decide) W
  have hmk := HMK.out (w.alloc (.cells #[.int .u16 0, .bool false, .int .i64 0, .int .u8 0, .int .u8 0, .int .u8 0, .int .u8 0, .int .u8 0, .int .u8 0, .int .u8 0, .int .u8 0, .int .u8 0, .int .u8 0, .slice none 0 0] 27))
  rw [show (w.alloc (.cells #[.int .u16 0, .bool false, .int .i64 0, .int .u8 0, .int .u8 0, .int .u8 0, .int .u8 0, .int .u8 0, .int .u8 0, .int .u8 0, .int .u8 0, .int .u8 0, .int .u8 0, .slice none 0 0] 27)).heap.size = w.heap.size + 1 from by simp] at hmk
  obtain ⟨w3, hw3⟩ : ∃ w3, ((w.alloc (.cells #[.int .u16 0, .bool false, .int .i64 0, .int .u8 0, .int .u8 0, .int .u8 0, .int .u8 0, .int .u8 0, .int .u8 0, .int .u8 0, .int .u8 0, .int .u8 0, .int .u8 0, .slice none 0 0] 27)).alloc (.cells (cells zer).toArray 5)).alloc (.cells #[.int .u16 (id : Int), .bool true, .int .i64 0, .int .u8 0, .int .u8 0, .int .u8 0, .int .u8 0, .int .u8 0, .int .u8 0, .int .u8 0, .int .u8 0, .int .u8 0, .int .u8 0, .slice (some ⟨w.heap.size + 1, 0, none⟩) 176 176] 27) = w3 := ⟨_, rfl⟩
  have HW3 := Lib.hid hw3
  have HB3 : Hid (Below w.heap.size w w3) := by show Below _ _ _; rw [← hw3]; exact (((Below.refl _ _).alloc (Nat.le_refl _) _).alloc (by simp) _).alloc (by simp; omega) _
  have HG0 : Hid (w3.heap[w.heap.size]? = some (.cells #[.int .u16 0, .bool false, .int .i64 0, .int .u8 0, .int .u8 0, .int .u8 0, .int .u8 0, .int .u8 0, .int .u8 0, .int .u8 0, .int .u8 0, .int .u8 0, .int .u8 0, .slice none 0 0] 27 (0, 0))) := by show _ = _; rw [← hw3]; exact old_alloc (old_alloc (heap_alloc_new w _) _) _
  have HG1 : Hid (w3.heap[w.heap.size + 1]? = some (.cells (cells zer).toArray 5 (0, 0))) := by
    have := heap_alloc_new (w.alloc (.cells #[.int .u16 0, .bool false, .int .i64 0, .int .u8 0, .int .u8 0, .int .u8 0, .int .u8 0, .int .u8 0, .int .u8 0, .int .u8 0, .int .u8 0, .int .u8 0, .int .u8 0, .slice none 0 0] 27)) (.cells (cells zer).toArray 5)
    rw [World.size_alloc] at this
    show _ = _
    rw [← hw3]
    exact old_alloc this _
  have HG2 : Hid (w3.heap[w.heap.size + 2]? = some (.cells #[.int .u16 (id : Int), .bool true, .int .i64 0, .int .u8 0, .int .u8 0, .int .u8 0, .int .u8 0, .int .u8 0, .int .u8 0, .int .u8 0, .int .u8 0, .int .u8 0, .int .u8 0, .slice (some ⟨w.heap.size + 1, 0, none⟩) 176 176] 27 (0, 0))) := by
    have := heap_alloc_new ((w.alloc (.cells #[.int .u16 0, .bool false, .int .i64 0, .int .u8 0, .int .u8 0, .int .u8 0, .int .u8 0, .int .u8 0, .int .u8 0, .int .u8 0, .int .u8 0, .int .u8 0, .int .u8 0, .slice none 0 0] 27)).alloc (.cells (cells zer).toArray 5)) (.cells #[.int .u16 (id : Int), .bool true, .int .i64 0, .int .u8 0, .int .u8 0, .int .u8 0, .int .u8 0, .int .u8 0, .int .u8 0, .int .u8 0, .int .u8 0, .int .u8 0, .int .u8 0, .slice (some ⟨w.heap.size + 1, 0, none⟩) 176 176] 27)
    rw [World.size_alloc, World.size_alloc] at this
    show _ = _
    rw [← hw3]
    exact this
  clear hw3
  have HOK : Hid (id < 65536) := hid
  clear hid
  go_enter Try.func9, Try.ntmps9
  go_upto_region 2 with (fail)
  rw [HW3.out]
  clear hmk hu
  go_wp2_with (first | refine wpList_load_row rfl 27 _ rfl (w.heap.size + 2) rfl 27 #[.int .u16 (id : Int), .bool true, .int .i64 0, .int .u8 0, .int .u8 0, .int .u8 0, .int .u8 0, .int .u8 0, .int .u8 0, .int .u8 0, .int .u8 0, .int .u8 0, .int .u8 0, .slice (some ⟨w.heap.size + 1, 0, none⟩) 176 176] (0, 0) _ HG2.out Try.underlying27 rfl (by kernel_rfl) ?_ | refine wpList_store_row rfl 27 _ _ rfl w.heap.size #[.int .u16 (id : Int), .bool true, .int .i64 0, .int .u8 0, .int .u8 0, .int .u8 0, .int .u8 0, .int .u8 0, .int .u8 0, .int .u8 0, .int .u8 0, .int .u8 0, .int .u8 0, .slice (some ⟨w.heap.size + 1, 0, none⟩) 176 176] rfl rfl 27 #[.int .u16 0, .bool false, .int .i64 0, .int .u8 0, .int .u8 0, .int .u8 0, .int .u8 0, .int .u8 0, .int .u8 0, .int .u8 0, .int .u8 0, .int .u8 0, .int .u8 0, .slice none 0 0] HG0.out (by kernel_rfl) rfl (by kernel_rfl) ?_)
  (try simp only [Exit.inBlock, Exit.then])
  refine ret_one (g := w.heap.size) rfl rfl (setRow_heap _ _ _ _ _ _ HG0.out) Try.underlying27 rfl (by kernel_rfl) rfl ?_
  refine ⟨_, rfl, ⟨.slice (some ⟨w.heap.size + 1, 0, none⟩) 176 176, rfl, ⟨HOK.out, rfl, rfl⟩, ⟨show (-9223372036854775808 : Int) ≤ 0 by decide, show (0 : Int) ≤ 9223372036854775807 by decide⟩, some ⟨w.heap.size + 1, 0, none⟩, 176, rfl, ?_, Nat.le_refl _, by decide, fun h => by cases h⟩, below_setRow HB3.out (Nat.le_refl _) _⟩
  exact fun k u hk => ⟨w.heap.size + 1, 0, (cells zer).toArray, rfl, Nat.zero_le _, (setRow_other _ _ _ _ (by omega)).trans HG1.out, by have hk2 : (cells zer)[k]? = some u := hk; simpa using hk2⟩

set_option maxRecDepth 100000 in
set_option maxHeartbeats 4000000 in
theorem piece_last (b : Nat) (A : Option Addr) (data : List UInt8) (n c : Nat) (w : World) (hb : w.cell? ⟨b, 0, none⟩ = some (.slice A n c)) (hr : Rd w 0 w.heap.size A (cells data)) (hn : data.length = n) (hA : A = none → c = 0) (hn2 : n ≤ 200) (hlt : b < w.heap.size) :
    Calls Try.prog 9 #[.int .i64 3, .bool true, .pointer (some ⟨b, 0, none⟩)] w fun e w' => ∃ ds, e = .returned (.agg ds) ∧ PkT w' 0 ds.toList (p1H data) ∧ Below w.heap.size w w' := by
  have hu : IntKind.u16.wrap (3 : Int) = 3 := rfl
  have HMK : Hid (∀ W : World, (Instr.makeSlice 25 (.int .i64 176) (.int .i64 176)).run Try.prog W = .ok (.slice (some ⟨W.heap.size, 0, none⟩) 176 176) (W.alloc (.cells (cells zer).toArray 5))) := fun W => make_row 176 (by decide) W
  have hmk := HMK.out (w.alloc (.cells #[.int .u16 0, .bool false, .int .i64 0, .int .u8 0, .int .u8 0, .int .u8 0, .int .u8 0, .int .u8 0, .int .u8 0, .int .u8 0, .int .u8 0, .int .u8 0, .int .u8 0, .slice none 0 0] 27))
  rw [show (w.alloc (.cells #[.int .u16 0, .bool false, .int .i64 0, .int .u8 0, .int .u8 0, .int .u8 0, .int .u8 0, .int .u8 0, .int .u8 0, .int .u8 0, .int .u8 0, .int .u8 0, .int .u8 0, .slice none 0 0] 27)).heap.size = w.heap.size + 1 from by simp] at hmk
  obtain ⟨w3, hw3⟩ : ∃ w3, ((w.alloc (.cells #[.int .u16 0, .bool false, .int .i64 0, .int .u8 0, .int .u8 0, .int .u8 0, .int .u8 0, .int .u8 0, .int .u8 0, .int .u8 0, .int .u8 0, .int .u8 0, .int .u8 0, .slice none 0 0] 27)).alloc (.cells (cells zer).toArray 5)).alloc (.cells #[.int .u16 3, .bool true, .int .i64 0, .int .u8 0, .int .u8 0, .int .u8 0, .int .u8 0, .int .u8 0, .int .u8 0, .int .u8 0, .int .u8 0, .int .u8 0, .int .u8 0, .slice (some ⟨w.heap.size + 1, 0, none⟩) 176 176] 27) = w3 := ⟨_, rfl⟩
  have HW3 := Lib.hid hw3
  have HB3 : Hid (Below w.heap.size w w3) := by show Below _ _ _; rw [← hw3]; exact (((Below.refl _ _).alloc (Nat.le_refl _) _).alloc (by simp) _).alloc (by simp; omega) _
  have HG0 : Hid (w3.heap[w.heap.size]? = some (.cells #[.int .u16 0, .bool false, .int .i64 0, .int .u8 0, .int .u8 0, .int .u8 0, .int .u8 0, .int .u8 0, .int .u8 0, .int .u8 0, .int .u8 0, .int .u8 0, .int .u8 0, .slice none 0 0] 27 (0, 0))) := by show _ = _; rw [← hw3]; exact old_alloc (old_alloc (heap_alloc_new w _) _) _
  have HG1 : Hid (w3.heap[w.heap.size + 1]? = some (.cells (cells zer).toArray 5 (0, 0))) := by
    have := heap_alloc_new (w.alloc (.cells #[.int .u16 0, .bool false, .int .i64 0, .int .u8 0, .int .u8 0, .int .u8 0, .int .u8 0, .int .u8 0, .int .u8 0, .int .u8 0, .int .u8 0, .int .u8 0, .int .u8 0, .slice none 0 0] 27)) (.cells (cells zer).toArray 5)
    rw [World.size_alloc] at this
    show _ = _
    rw [← hw3]
    exact old_alloc this _
  have HG2 : Hid (w3.heap[w.heap.size + 2]? = some (.cells #[.int .u16 3, .bool true, .int .i64 0, .int .u8 0, .int .u8 0, .int .u8 0, .int .u8 0, .int .u8 0, .int .u8 0, .int .u8 0, .int .u8 0, .int .u8 0, .int .u8 0, .slice (some ⟨w.heap.size + 1, 0, none⟩) 176 176] 27 (0, 0))) := by
    have := heap_alloc_new ((w.alloc (.cells #[.int .u16 0, .bool false, .int .i64 0, .int .u8 0, .int .u8 0, .int .u8 0, .int .u8 0, .int .u8 0, .int .u8 0, .int .u8 0, .int .u8 0, .int .u8 0, .int .u8 0, .slice none 0 0] 27)).alloc (.cells (cells zer).toArray 5)) (.cells #[.int .u16 3, .bool true, .int .i64 0, .int .u8 0, .int .u8 0, .int .u8 0, .int .u8 0, .int .u8 0, .int .u8 0, .int .u8 0, .int .u8 0, .int .u8 0, .int .u8 0, .slice (some ⟨w.heap.size + 1, 0, none⟩) 176 176] 27)
    rw [World.size_alloc, World.size_alloc] at this
    show _ = _
    rw [← hw3]
    exact this
  clear hw3
  have HR := Lib.hid hr
  have HN := Lib.hid hn
  have HB := Lib.hid hb
  clear hr hn hb
  go_enter Try.func9, Try.ntmps9
  go_upto_region 2 with (fail)
  rw [HW3.out]
  clear hmk hu
  obtain ⟨i0, hi0, hz0, hz1, hz2⟩ := info_parts info_u8
  have kb : (w3.alloc (.cells #[.int .u8 1] 5)).cell? ⟨b, 0, none⟩ = some (.slice A n c) := by
    have hbl := HB3.out.alloc HB3.out.size (.cells #[.int .u8 1] 5)
    rw [World.cell?_of_block (hbl.block b hlt)]
    exact HB.out
  have hbl := HB3.out.alloc HB3.out.size (.cells #[.int .u8 1] 5)
  have HRD := Lib.hid (HR.out.below hbl (Nat.le_refl _))
  have HBL := Lib.hid hbl
  have HSZ3 : Hid (w.heap.size + 3 ≤ w3.heap.size) := by show _ ≤ _; exact row_lt HG2.out
  clear hbl
  go_wp2_with (first | (at_builtin; refine wpList_append_rd rfl _ _ 25 rfl w3.heap.size 5 i0 (.int .u8 0) 1 Try.underlying25 hi0 hz0 hz1 hz2 rfl _ 1 [.int .u8 1] rfl (own_lit w3 [.int .u8 1] _ _ w3.heap.size 1 rfl (Nat.le_refl _) (by decide) rfl) A n c (cells data) rfl hA (by rw [cells_length]; exact HN.out) HRD.out (cells_one data) (by unfold maxLen; omega) (by omega) (by simp) ?_))
  intro v5 w5 hown5 hg5
  obtain ⟨A5, c5, rfl, h51, h52, h53⟩ := ownk_form hown5
  have hg0 : w5.heap[w.heap.size]? = some (.cells #[.int .u16 0, .bool false, .int .i64 0, .int .u8 0, .int .u8 0, .int .u8 0, .int .u8 0, .int .u8 0, .int .u8 0, .int .u8 0, .int .u8 0, .int .u8 0, .int .u8 0, .slice none 0 0] 27 (0, 0)) := (hg5.block _ (by have := HSZ3.out; simp; omega) (fun he => by injection he with he; dsimp only at he; have := HSZ3.out; omega)).trans (old_alloc HG0.out _)
  have hg2 : w5.heap[w.heap.size + 2]? = some (.cells #[.int .u16 3, .bool true, .int .i64 0, .int .u8 0, .int .u8 0, .int .u8 0, .int .u8 0, .int .u8 0, .int .u8 0, .int .u8 0, .int .u8 0, .int .u8 0, .int .u8 0, .slice (some ⟨w.heap.size + 1, 0, none⟩) 176 176] 27 (0, 0)) := (hg5.block _ (by have := HSZ3.out; simp; omega) (fun he => by injection he with he; dsimp only at he; have := HSZ3.out; omega)).trans (old_alloc HG2.out _)
  have HB5 : Hid (Below w.heap.size w w5) := HBL.out.grown hg5 HBL.out.size fun g hg => by injection hg with hg; dsimp only at hg; have := HSZ3.out; omega
  have HTR : Hid (Tr w5 0 5 A5 (cells (1 :: data))) := (Tr.own hown5).wide (Nat.zero_le _)
  have hc2 : w5.cell? ⟨w.heap.size + 2, 2, none⟩ = some (.int .i64 0) := cell_of_row _ _ 2 _ _ _ hg2
  have hc1 : w5.cell? ⟨w.heap.size + 2, 1, none⟩ = some (.bool true) := cell_of_row _ _ 1 _ _ _ hg2
  have hc13 : w5.cell? ⟨w.heap.size + 2, 13, none⟩ = some (.slice (some ⟨w.heap.size + 1, 0, none⟩) 176 176) := cell_of_row _ _ 13 _ _ _ hg2
  have hf2 := frozen_of_row _ _ 2 _ _ hg2
  have hf1 := frozen_of_row _ _ 1 _ _ hg2
  have hf13 := frozen_of_row _ _ 13 _ _ hg2
  have hy1 := heap_setCell_same w5 (w.heap.size + 2) 2 _ 27 (.int .i64 176) hg2
  have hy2 := heap_setCell_same _ (w.heap.size + 2) 1 _ 27 (.bool false) hy1
  have hy3 := heap_setCell_same _ (w.heap.size + 2) 13 _ 27 (.slice A5 (1 + n) c5) hy2
  obtain ⟨w6, hw6⟩ : ∃ w6, ((w5.setCell ⟨w.heap.size + 2, 2, none⟩ (.int .i64 176)).setCell ⟨w.heap.size + 2, 1, none⟩ (.bool false)).setCell ⟨w.heap.size + 2, 13, none⟩ (.slice A5 (1 + n) c5) = w6 := ⟨_, rfl⟩
  rw [hw6] at hy3
  have hoth : ∀ k, k ≠ w.heap.size + 2 → w6.heap[k]? = w5.heap[k]? := fun k hk => by rw [← hw6]; exact ((heap_setCell_other _ _ _ _ hk).trans (heap_setCell_other _ _ _ _ hk)).trans (heap_setCell_other _ _ _ _ hk)
  have HG6 : Hid (w6.heap[w.heap.size + 2]? = some (.cells #[.int .u16 3, .bool false, .int .i64 176, .int .u8 0, .int .u8 0, .int .u8 0, .int .u8 0, .int .u8 0, .int .u8 0, .int .u8 0, .int .u8 0, .int .u8 0, .int .u8 0, .slice A5 (1 + n) c5] 27 (0, 0))) := hy3
  have HG60 := Lib.hid ((hoth w.heap.size (by omega)).trans hg0)
  have HB6 : Hid (Below w.heap.size w w6) := by show Below _ _ _; rw [← hw6]; exact ((HB5.out.setCell (by simp) _).setCell (by simp) _).setCell (by simp) _
  have HTR6 : Hid (Tr w6 0 5 A5 (cells (1 :: data))) := HTR.out.keep fun g C _ hgC => hoth g fun he => by
    subst he
    rw [hg2] at hgC
    injection hgC with hgC
    injection hgC with _ h2
    exact absurd h2 (by decide)
  have HCC := Lib.hid (And.intro h51 (And.intro h52 h53))
  have HW6 := Lib.hid hw6
  clear hown5 hg5 h51 h52 h53 hg0 hg2 hy1 hy2 hy3 hoth hw6 kb hA
  go_upto_region 4 with (fail)
  rw [HW6.out]
  clear hc2 hc1 hc13 hf2 hf1 hf13
  go_wp2_with (first | refine wpList_load_row rfl 27 _ rfl (w.heap.size + 2) rfl 27 #[.int .u16 3, .bool false, .int .i64 176, .int .u8 0, .int .u8 0, .int .u8 0, .int .u8 0, .int .u8 0, .int .u8 0, .int .u8 0, .int .u8 0, .int .u8 0, .int .u8 0, .slice A5 (1 + n) c5] (0, 0) _ HG6.out Try.underlying27 rfl (by kernel_rfl) ?_ | refine wpList_store_row rfl 27 _ _ rfl w.heap.size #[.int .u16 3, .bool false, .int .i64 176, .int .u8 0, .int .u8 0, .int .u8 0, .int .u8 0, .int .u8 0, .int .u8 0, .int .u8 0, .int .u8 0, .int .u8 0, .int .u8 0, .slice A5 (1 + n) c5] rfl rfl 27 #[.int .u16 0, .bool false, .int .i64 0, .int .u8 0, .int .u8 0, .int .u8 0, .int .u8 0, .int .u8 0, .int .u8 0, .int .u8 0, .int .u8 0, .int .u8 0, .int .u8 0, .slice none 0 0] HG60.out (by kernel_rfl) rfl (by kernel_rfl) ?_)
  (try simp only [Exit.inBlock, Exit.then])
  refine ret_one (g := w.heap.size) rfl rfl (setRow_heap _ _ _ _ _ _ HG60.out) Try.underlying27 rfl (by kernel_rfl) rfl ?_
  have hl1 : 1 + n = (1 :: data).length := by rw [List.length_cons, HN.out]; omega
  refine ⟨_, rfl, ⟨.slice A5 (1 + n) c5, rfl, ⟨show 3 < 65536 by decide, rfl, rfl⟩, ⟨show (-9223372036854775808 : Int) ≤ 176 by decide, show (176 : Int) ≤ 9223372036854775807 by decide⟩, A5, c5, by rw [hl1]; rfl, ?_, ?_, HCC.out.2.1, HCC.out.2.2⟩, below_setRow HB6.out (Nat.le_refl _) _⟩
  · exact HTR6.out.setRow HG60.out (by decide) _
  · show (1 :: data).length ≤ c5
    rw [← hl1]
    exact HCC.out.1
end Go.Proofs.Ytogplhdcicajgaa
