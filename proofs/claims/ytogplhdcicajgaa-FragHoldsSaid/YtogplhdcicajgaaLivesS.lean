/-
  The chapter's example, as the statements of layer 7 ask it first: the answer is true, and nothing that was there is turned. Every world.
-/
import Derived.Test.YtogplhdcicajgaaAdd
namespace Go.Proofs.Ytogplhdcicajgaa
open Go.RowKit

/-- an element of a row that is owned: its cells -/
theorem own_cell {w : World} {base k n g c : Nat} {e : TypeId} {xs : List Value} (h : w.ownsRow base e k (.slice (some ⟨g, 0, none⟩) n c) n xs) (i j : Nat) (u : Value) (hj : j < k) (hu : ((xs.drop (i * k)).take k)[j]? = some u) : w.cell? ⟨g, i * k + j, none⟩ = some u := by
  rw [List.getElem?_take, if_pos hj, List.getElem?_drop] at hu
  have hlt := (List.getElem?_eq_some_iff.1 hu).1
  rw [h.1] at hlt
  rw [h.cellAt _ hlt]
  exact hu
/-- a slice of n bytes 0 -/
theorem make_bytes (n : Nat) (hn : n ≤ 100000) (w : World) : ∃ w1, (Instr.makeSlice 25 (.int .i64 (n : Int)) (.int .i64 (n : Int))).run Try.prog w = .ok (.slice (some ⟨w.heap.size, 0, none⟩) n n) w1 ∧ w1.ownsRow w.heap.size 5 1 (.slice (some ⟨w.heap.size, 0, none⟩) n n) n (cells (List.replicate n 0)) ∧ Below w.heap.size w w1 ∧ w1.heap.size = w.heap.size + 1 := by
  obtain ⟨i0, hi0, hz0, hz1, hz2⟩ := info_parts info_u8
  have hr := run_make (P := Try.prog) w 25 5 i0 (.int .u8 0) Try.underlying25 hi0 hz0 .i64 .i64 n n (by omega) (Int.le_refl _) (by rw [hz2]; omega) (by omega)
  simp only [Int.toNat_natCast] at hr
  refine ⟨_, hr, ?_, (Below.refl _ _).alloc (Nat.le_refl _) _, by simp⟩
  have h := World.ownsRow_lit (base := w.heap.size) (e := 5) (size := 1) w (madeCells (Value.int .u8 0).cells (n * i0.size)) n (Nat.le_refl _) (by unfold maxLen; omega) (by rw [size_madeCells, hz1])
  have e : (madeCells (Value.int .u8 0).cells (n * i0.size)).toList = cells (List.replicate n 0) := by
    rw [hz1, Nat.mul_one]
    show (madeCells #[.int .u8 0] n).toList = _
    rw [toList_madeCells_one]
    simp [cells]
  rw [e] at h
  exact h

set_option maxRecDepth 100000 in
set_option maxHeartbeats 4000000 in
theorem lives_any (w : World) : Calls Try.prog 5 #[] w fun e w' => e = .returned (.bool true) ∧ Below w.heap.size w w' := by
  obtain ⟨w1, hmk, hown, hb1, hz1⟩ := make_bytes 200 (by omega) w
  have hmk2 : (Instr.makeSlice 25 (.int .i64 200) (.int .i64 200)).run Try.prog w = .ok (.slice (some ⟨w.heap.size, 0, none⟩) 200 200) w1 := hmk
  have HOW := Lib.hid hown
  have HB1 := Lib.hid hb1
  have HZ1 := Lib.hid hz1
  clear hmk hown hb1 hz1
  go_enter Try.func5, Try.ntmps5
  go_wp2_with fail
  have hsp := split_ok 0 0 0 0 0 0 0 0 0 0 0 (List.replicate 200 0) (some ⟨w.heap.size, 0, none⟩) 200 200 w.heap.size w1.heap.size w1 (by decide) (Rd.own HOW.out) (by simp) (Nat.le_refl _) (by unfold maxLen; omega) (fun h => by cases h) (Nat.le_refl _) (by omega)
  refine hsp.mono ?_
  rintro e w2 ⟨v, rfl, ⟨xs, ho, hrow⟩, hb2⟩
  have HB2 := Lib.hid (HB1.out.trans (hb2.mono HB1.out.size))
  obtain ⟨A, c, rfl, _⟩ := ownk_form ho
  rw [splitL_length] at ho ⊢
  have hpn : piecesN 200 = 2 := by decide
  rw [hpn] at ho hrow ⊢
  obtain ⟨g, cap, cur, hg, _⟩ := ownk_some ho (by omega)
  injection hg with hA
  subst hA
  obtain ⟨p0, hp0⟩ : ∃ p0 : Pk, p0 = pieceP ⟨0, false, 0, 0, 0, [0, 0, 0, 0], [0, 0, 0, 0], List.replicate 200 0⟩ 0 := ⟨_, rfl⟩
  obtain ⟨p1, hp1⟩ : ∃ p1 : Pk, p1 = pieceP ⟨0, false, 0, 0, 0, [0, 0, 0, 0], [0, 0, 0, 0], List.replicate 200 0⟩ 1 := ⟨_, rfl⟩
  have r0 := (hrow.2 0 p0 (by rw [hp0]; rfl)).pkV
  have r1 := (hrow.2 1 p1 (by rw [hp1]; rfl)).pkV
  have q0 : p0.more = true := by rw [hp0]; simp [pieceP]
  have q1 : p1.off = 176 := by rw [hp1]; rfl
  have q2 : p1.data.length = 24 := by rw [hp1]; simp [pieceP]
  obtain ⟨_, _, k1, _, _, _⟩ := r0.parts
  obtain ⟨A1, c1, _, _, k3, _⟩ := r1.parts
  have k2 := r1.off_cell
  rw [q0] at k1
  rw [q1] at k2
  rw [q2] at k3
  rw [List.getElem?_toArray] at k1 k2 k3
  have f1 := own_cell ho 0 1 _ (by omega) k1
  have f2 := own_cell ho 1 2 _ (by omega) k2
  have f3 := own_cell ho 1 13 _ (by omega) k3
  simp only [Nat.zero_mul, Nat.zero_add, Nat.one_mul, Nat.reduceAdd] at f1 f2 f3
  clear hsp ho hrow hb2 hpn hp0 hp1 r0 r1 q0 q1 q2 k1 k2 k3 hmk2
  go_wp2
  go_ret
  exact ⟨rfl, HB2.out⟩
end Go.Proofs.Ytogplhdcicajgaa
