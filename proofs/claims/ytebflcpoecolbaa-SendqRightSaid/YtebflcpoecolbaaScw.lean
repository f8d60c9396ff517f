/-
  The code's Write of layer 18. Every state that may be, at most 1000 bytes.
-/
import Derived.Test.YtebflcpoecolbaaSca
import Derived.Test.YtebflcpoecolbaaRelyG
import Derived.Lib.MinMax
namespace Go.Proofs.Ytebflcpoecolbaa
open Go.RowKit

def OwnB18 (lo n : Nat) (xs : List Value) : Pred := fun v w => w.ownsRow lo 5 1 v n xs
theorem ownb18_mono (lo n : Nat) (xs : List Value) : Mono (OwnB18 lo n xs) := fun _ _ _ hb h => ownk_below h hb (Nat.le_refl _)
/-- how many bytes are written -/
def writeQ (q : Sq) (s : List UInt8) : Nat := min s.length (if q.fin = true then 0 else 256 - q.data.length)
set_option maxRecDepth 100000 in
set_option maxHeartbeats 4000000 in
theorem write18 (q : Sq) (v : Value) (S : Nat → Prop) (S2 : Nat → Prop) (v2 : Value) (s : List UInt8) (w : World) (hv : Rv w S v (bytesD q.data)) (hl : q.data.length ≤ 256) (hv2 : Rv w S2 v2 (bytesD s)) (hs : s.length ≤ 1000) : Calls Try.prog 20 #[.agg (sqC q v), v2] w fun e w' => ∃ v', e = .returned (.tuple #[.agg (sqC { q with data := q.data ++ s.take (writeQ q s) } v'), .int .i64 (writeQ q s : Int)]) ∧ w'.ownsRow (w.heap.size + 2) 5 1 v' (q.data.length + writeQ q s) (cells (q.data ++ s.take (writeQ q s))) ∧ Below w.heap.size w w' := by
  obtain ⟨k, hk⟩ : ∃ k, writeQ q s = k := ⟨_, rfl⟩
  rw [hk]
  have hks : k ≤ s.length := by rw [← hk]; exact Nat.min_le_left ..
  obtain ⟨A2, c2, rfl, -, -, h3, h4⟩ := rv_bytes.1 hv2
  obtain ⟨m, hm⟩ : ∃ m, s.length = m := ⟨_, rfl⟩
  have hc63 : c2 ≤ 9223372036854775807 := by unfold maxLen at h4; omega
  obtain ⟨R, hR⟩ : ∃ R : Int, (if q.fin = true then (0 : Int) else 256 - (q.data.length : Int)) = R := ⟨_, rfl⟩
  have hKR : (k : Int) = min (m : Int) (max R 0) ∧ 0 ≤ R ∧ R ≤ 256 := by
    rw [← hk, ← hR]
    unfold writeQ
    rw [hm]
    split <;> omega
  have HRM : Hid (∀ (W : World) (v1 : Value) (S1 : Nat → Prop), Rv W S1 v1 (bytesD q.data) → Calls Try.prog 14 #[.agg (sqC q v1)] W fun e w' => e = .returned (.int .i64 R) ∧ Below W.heap.size W w') := fun W v1 S1 h => by rw [← hR]; exact room18 q v1 S1 W h hl
  obtain ⟨At, hAt⟩ : ∃ At : Option Addr, (if c2 = 0 then A2 else A2.map (·.add (0 * 1))) = At := ⟨_, rfl⟩
  have hVT := byt_take hv2 k hks rfl
  have hAt2 : At = A2 := by
    rw [← hAt]
    split
    · rfl
    · cases A2
      · rfl
      · simp [Addr.add]
  have HVT : Hid (Rv w S2 (.slice At k c2) (bytesD (s.take k))) := by rw [hAt2]; exact hVT
  have HSL : Hid (∀ W : World, (Instr.slice 26 (.slice A2 m c2) none (some (.int .i64 (k : Int))) none).run Try.prog W = .ok (.slice At k c2) W) := fun W => by
    rw [← hAt]
    exact run_slice_h (P := Try.prog) 26 5 1 Try.underlying26 (by kernel_rfl) A2 m c2 k (by omega) W
  have HKL : Hid ((s.take k).length = k) := by show _ = _; rw [List.length_take]; omega
  have HKR := Lib.hid hKR
  have HD := Lib.hid hv
  have HDL : Hid (q.data.length ≤ 1000000) := by show _ ≤ _; omega
  rw [hm] at h3 hs hks ⊢
  have hR2 := hKR.2
  clear hk hv hv2 h4 hm hR hAt hVT hAt2 hKR
  obtain ⟨w1, hw1⟩ : ∃ w1, (w.alloc (.cells (sqC q v) 28)).alloc (.cells (Zsq) 28) = w1 := ⟨_, rfl⟩
  have HB : Hid (Below w.heap.size w w1) := by rw [← hw1]; exact ((Below.refl _ _).alloc (Nat.le_refl _) _).alloc (by simp) _
  have HX : Hid (w1.heap[w.heap.size]? = some (.cells (sqC q v) 28 (0, 0))) := by rw [← hw1]; exact old_alloc (heap_alloc_new w _) _
  have HZ : Hid (w1.heap[w.heap.size + 1]? = some (.cells (Zsq) 28 (0, 0))) := by rw [← hw1]; exact new_at1 w _ _
  have HS1 : Hid (w1.heap.size = w.heap.size + 2) := by show _ = _; rw [← hw1]; simp
  have HW := Lib.hid hw1
  clear hw1
  go_enter Try.func20, Try.ntmps20
  go_upto_region 1 with (fail)
  change Code.wp _ _ _ _ ((w.alloc (.cells (sqC q v) 28)).alloc (.cells (Zsq) 28))
  rw [HW.out]
  clear HW
  go_wp2_with (refine wpList_load_row rfl 28 _ rfl w.heap.size rfl 28 (sqC q v) (0, 0) _ HX.out Try.underlying28 rfl (by kernel_rfl) ?_)
  refine (clone18 q v S w1 (rv_blw18 HD.out HB.out) HDL.out).mono ?_
  rintro e w2 ⟨v1, rfl, hv, hb2⟩
  have HO2 : Hid (w2.ownsRow (w.heap.size + 2) 5 1 v1 q.data.length (cells q.data)) := ownk_base hv (by have := HS1.out; omega)
  have HONE : Hid (v1.oneCell' = true) := own_one hv
  have HX2 : Hid (w2.heap[w.heap.size]? = some (.cells (sqC q v) 28 (0, 0))) := old_below HX.out hb2 (row_lt HX.out)
  have HZ2 : Hid (w2.heap[w.heap.size + 1]? = some (.cells (Zsq) 28 (0, 0))) := old_below HZ.out hb2 (row_lt HZ.out)
  have HB2 := Lib.hid (HB.out.trans (hb2.mono HB.out.size))
  clear hv hb2 HX HB HZ
  go_upto_region 2 with (first | (refine wpList_store_row rfl 28 _ _ rfl w.heap.size (sqC q v1) rfl rfl 28 (sqC q v) HX2.out (by kernel_rfl) rfl (sqc_ones HONE.out) ?_; obtain ⟨w3, hw3⟩ : ∃ x, w2.setRow w.heap.size (sqC q v1) = x := ⟨_, rfl⟩; have HX3 : Hid (w3.heap[w.heap.size]? = some (.cells (sqC q v1) 28 (0, 0))) := (by rw [← hw3]; exact setRow_heap _ _ _ _ _ _ HX2.out); have HZ3 : Hid (w3.heap[w.heap.size + 1]? = some (.cells (Zsq) 28 (0, 0))) := (by rw [← hw3]; exact (setRow_other _ _ _ _ (by omega)).trans HZ2.out); have HO3 : Hid (w3.ownsRow (w.heap.size + 2) 5 1 (v1) (q.data.length) ((cells q.data))) := (by rw [← hw3]; exact own_set18 HO2.out HX2.out (by decide) _); have HB3 : Hid (Below w.heap.size w w3) := (by rw [← hw3]; exact below_setRow HB2.out (by omega) _); have HSZ3 : Hid (w3.heap.size = w2.heap.size) := (by show _ = _; rw [← hw3]; simp [World.setRow]); have HW3 := Lib.hid hw3; clear hw3; rw [HW3.out]; clear HW3 HX2 HZ2 HO2 HB2) | go_in)
  have HS3 : Hid (w.heap.size + 2 ≤ w3.heap.size) := by have := row_lt HZ3.out; show _ ≤ _; omega
  go_frame
  go_cut [6] (fun t6 wx => t6 = .int .i64 (k : Int) ∧ Hid (Below w3.heap.size w3 wx))
  case first =>
    go_wp2_with (refine wpList_load_row rfl 28 _ rfl w.heap.size rfl 28 (sqC q v1) (0, 0) _ HX3.out Try.underlying28 rfl (by kernel_rfl) ?_)
    refine (HRM.out w3 v1 _ (own_rv HO3.out)).mono ?_
    rintro e w4 ⟨rfl, hb4⟩
    have HB4 := Lib.hid hb4
    clear hb4
    go_wp2
    go_meet
    case rel => exact ⟨by rw [HKR.out.1], HB4⟩
  case rest =>
  obtain ⟨rfl, HB4⟩ := hcut
  have HX5 := Lib.hid (old_below HX3.out HB4.out (row_lt HX3.out))
  have HZ5 := Lib.hid (old_below HZ3.out HB4.out (row_lt HZ3.out))
  have HO5 := Lib.hid (ownk_below HO3.out HB4.out (Nat.le_refl _))
  have HB5 := Lib.hid (HB3.out.trans (HB4.out.mono HB3.out.size))
  have HS5 : Hid (w.heap.size + 2 ≤ wc.heap.size) := Nat.le_trans HS3.out HB4.out.size
  clear HX3 HZ3 HO3 HB3 HS3 HB4
  go_upto_region 3 with (fail)
  apply wp_region_relyG [5, 7] (fun L w' => Below w.heap.size w w' ∧ w'.heap[w.heap.size + 1]? = some (.cells Zsq 28 (0, 0)) ∧ (L 5 = false → w'.ownsRow (w.heap.size + 2) 5 1 v1 q.data.length (cells q.data)) ∧ (L 7 = false → w'.heap[w.heap.size]? = some (.cells (sqC q v1) 28 (0, 0))) ∧ (L 7 = true → ∃ v', w'.heap[w.heap.size]? = some (.cells (sqC q v') 28 (0, 0)) ∧ w'.ownsRow (w.heap.size + 2) 5 1 v' (q.data.length + k) (cells (q.data ++ s.take k)))) (RL [Is _, Is v1, Is _, Is _, Is (.slice At k c2), OwnB18 (w.heap.size + 2) (q.data.length + k) (cells (q.data ++ s.take k)), Is _, Any]) [false, false, false, false, false, false, false, false, false, false, false, false, false, false, false, true, true, true, true, true, true, true, false, false]
  · kernel_rfl
  · kernel_rfl
  · kernel_rfl
  · refine ⟨?_, ?_, ?_, ?_, ?_, ?_, ?_, ?_, trivial⟩
    · intro L ev w' hC hL hx K hK
      have e2 : ev (.tmp 2) = _ := hx.base 2 (by kernel_rfl)
      have HK := Lib.hid hK
      have HC := Lib.hid hC
      have HL := Lib.hid hL
      have HX6 := Lib.hid hx
      have hc := hx.cst
      skip
      clear hx hK hC hL
      unfold Run
      simp [execOp, Upon, go_sem, *]
      exact HK.out _ _ (.inl ⟨Below.refl _ _, by decide⟩) rfl
    · intro L ev w' hC hL hx K hK
      have e15 := hx.held 0 _ rfl (by kernel_rfl)
      change ev (.tmp 15) = _ at e15
      have HK := Lib.hid hK
      have HC := Lib.hid hC
      have HL := Lib.hid hL
      have HX6 := Lib.hid hx
      have hc := hx.cst
      skip
      clear hx hK hC hL
      have n7 : L 7 = false := Bool.eq_false_iff.2 fun h => by
        have h1 := HX6.out.closed 7 _ 5 rfl h (by kernel_rfl)
        have h2 := HX6.out.closed 5 _ 1 rfl h1 (by kernel_rfl)
        rw [HL.out] at h2
        cases h2
      have c1 := cell_of_row _ _ 1 _ _ _ (HC.out.2.2.2.1 n7)
      rw [show (sqC q v1)[1]? = some v1 from rfl] at c1
      clear n7
      unfold Run
      simp [execOp, Upon, go_sem, *]
      exact HK.out _ _ (.inl ⟨Below.refl _ _, by decide⟩) rfl
    · intro L ev w' hC hL hx K hK
      have e1 : ev (.tmp 1) = _ := hx.base 1 (by kernel_rfl)
      have HK := Lib.hid hK
      have HC := Lib.hid hC
      have HL := Lib.hid hL
      have HX6 := Lib.hid hx
      have hc := hx.cst
      skip
      clear hx hK hC hL
      unfold Run
      simp [execOp, Upon, go_sem, *]
      exact HK.out _ _ (.inl ⟨Below.refl _ _, by decide⟩) rfl
    · intro L ev w' hC hL hx K hK
      have e6 : ev (.tmp 6) = _ := hx.base 6 (by kernel_rfl)
      have HK := Lib.hid hK
      have HC := Lib.hid hC
      have HL := Lib.hid hL
      have HX6 := Lib.hid hx
      have hc := hx.cst
      skip
      clear hx hK hC hL
      unfold Run
      simp [execOp, Upon, go_sem, *]
      exact HK.out _ _ (.inl ⟨Below.refl _ _, by decide⟩) rfl
    · intro L ev w' hC hL hx K hK
      have e17 := hx.held 2 _ rfl (by kernel_rfl)
      have e18 := hx.held 3 _ rfl (by kernel_rfl)
      change ev (.tmp 17) = _ at e17
      change ev (.tmp 18) = _ at e18
      have HK := Lib.hid hK
      have HC := Lib.hid hC
      have HL := Lib.hid hL
      have HX6 := Lib.hid hx
      have hc := hx.cst
      skip
      clear hx hK hC hL
      have q17 : ev (.tmp 17) = .slice A2 m c2 := e17
      have hrun : (Instr.slice 26 (.slice A2 m c2) none (some (ev (.tmp 18))) none).run Try.prog w' = .ok (.slice At k c2) w' := by rw [e18]; exact HSL.out w'
      unfold Run
      rw [run_sliceE 26 _ none (some _) rfl Try.underlying26 q17 hrun]
      exact HK.out _ _ (.inl ⟨Below.refl _ _, by decide⟩) rfl
    · intro L ev w' hC hL hx K hK
      have e16 := hx.held 1 _ rfl (by kernel_rfl)
      have e19 := hx.held 4 _ rfl (by kernel_rfl)
      change ev (.tmp 16) = _ at e16
      change ev (.tmp 19) = _ at e19
      have HK := Lib.hid hK
      have HC := Lib.hid hC
      have HL := Lib.hid hL
      have HX6 := Lib.hid hx
      have hc := hx.cst
      skip
      clear hx hK hC hL
      have n7 : L 7 = false := Bool.eq_false_iff.2 fun h => by
        have h1 := HX6.out.closed 7 _ 5 rfl h (by kernel_rfl)
        rw [HL.out] at h1
        cases h1
      have hown := HC.out.2.2.1 HL.out
      obtain ⟨i0, hi0, hz0, hz1, hz2⟩ := byte_parts
      have hz3 : (Value.int .u8 0).cells.size = 1 := rfl
      obtain ⟨hrd, hA, hkc, -⟩ := byt_rd (rv_blw18 HVT.out HC.out.1) HKL.out
      obtain ⟨v', w2, hrun, r1, r2, -⟩ := run_append_rdk (P := Try.prog) (w := w') (w.heap.size + 2) 26 26 5 i0 (.int .u8 0) 1 1 Try.underlying26 hi0 hz0 hz1 hz2 hz3 (by omega) v1 q.data.length (cells q.data) hown At k c2 (cells (s.take k)) hA (by rw [cells_length, HKL.out, Nat.mul_one]) hrd (cells_one _) (by unfold maxLen; omega) (by omega) (by have := row_lt HC.out.2.1; omega)
      have HC9 := Lib.hid HC.out
      have HR1 : Hid (w2.ownsRow (w.heap.size + 2) 5 1 v' (q.data.length + k) (cells (q.data ++ s.take k))) := by rw [cells_append]; exact r1
      have HR2 := Lib.hid r2
      have HN7 := Lib.hid n7
      have HLT : Hid (∀ g, v1.ownBlock = some g → w.heap.size + 2 ≤ g) := fun g hg => (hown.lt g hg).1
      clear r1 r2 hown hi0 hz0 hz1 hz2 hz3 hrd hA hkc n7
      unfold Run
      rw [run_appendE _ _ 26 rfl e16 e19 hrun]
      refine HK.out _ _ (.inr ⟨⟨HC9.out.1.grown HR2.out HC9.out.1.size fun g hg => by have := HLT.out g hg; omega, (HR2.out.block _ (row_lt HC9.out.2.1) fun e => by have := HLT.out _ e.symm; omega).trans HC9.out.2.1, fun h => by simp [upd] at h, fun _ => (HR2.out.block _ (row_lt (HC9.out.2.2.2.1 HN7.out)) fun e => by have := HLT.out _ e.symm; omega).trans (HC9.out.2.2.2.1 HN7.out), fun h => ?_⟩, fun j hj hlj u hr => ?_⟩) HR1.out
      · simp [upd] at h
        rw [HN7.out] at h
        cases h
      · rcases j with _ | _ | _ | _ | _ | _ | _ | _ | j
        · exact hr
        · exact hr
        · exact hr
        · exact hr
        · exact hr
        · exact absurd rfl hj
        · exact hr
        · exact trivial
        · exact trivial
    · intro L ev w' hC hL hx K hK
      have e2 : ev (.tmp 2) = _ := hx.base 2 (by kernel_rfl)
      have HK := Lib.hid hK
      have HC := Lib.hid hC
      have HL := Lib.hid hL
      have HX6 := Lib.hid hx
      have hc := hx.cst
      skip
      clear hx hK hC hL
      unfold Run
      simp [execOp, Upon, go_sem, *]
      exact HK.out _ _ (.inl ⟨Below.refl _ _, by decide⟩) rfl
    · intro L ev w' hC hL hx K hK
      have e20 := hx.held 5 _ rfl (by kernel_rfl)
      have e21 := hx.held 6 _ rfl (by kernel_rfl)
      change (OwnB18 (w.heap.size + 2) (q.data.length + k) (cells (q.data ++ s.take k)) : Pred) (ev (.tmp 20)) w' at e20
      change ev (.tmp 21) = _ at e21
      have HK := Lib.hid hK
      have HC := Lib.hid hC
      have HL := Lib.hid hL
      have HX6 := Lib.hid hx
      have hc := hx.cst
      skip
      clear hx hK hC hL
      have hown := e20
      obtain ⟨A5, c5, q20, -, -, -⟩ := ownk_form hown
      have hgb := HC.out.2.2.2.1 HL.out
      have hrun := run_storeVar_fld (P := Try.prog) w' w.heap.size 1 28 26 (sqC q v1) (.slice A5 (q.data.length + k) c5) hgb (by show 1 < 6; omega) (by kernel_rfl) rfl
      rw [q20] at hown
      have HO9 := Lib.hid hown
      have HC9 := Lib.hid HC.out
      have HGB := Lib.hid hgb
      clear hown hgb
      unfold Run
      rw [run_storeE 26 _ _ rfl e21 q20 hrun]
      refine HK.out _ _ (.inr ⟨⟨below_setRow HC9.out.1 (Nat.le_refl _) _, (setRow_other _ _ _ _ (by omega)).trans HC9.out.2.1, fun h => own_set18 (HC9.out.2.2.1 (by simpa [upd] using h)) HGB.out (by decide) _, fun h => by simp [upd] at h, fun _ => ⟨_, setRow_heap _ _ _ _ _ _ HGB.out, own_set18 HO9.out HGB.out (by decide) _⟩⟩, fun j hj hlj u hr => ?_⟩) trivial
      · rcases j with _ | _ | _ | _ | _ | _ | _ | _ | j
        · exact hr
        · exact hr
        · exact hr
        · exact hr
        · exact hr
        · exact own_set18 hr HGB.out (by decide) _
        · exact hr
        · exact absurd rfl hj
        · exact trivial
  · exact rl_mono ⟨is_mono _, is_mono _, is_mono _, is_mono _, is_mono _, ownb18_mono _ _ _, is_mono _, any_mono, trivial⟩
  · exact fun L L' w1 he h => ⟨h.1, h.2.1, fun hl => h.2.2.1 ((he 5 (by simp)).trans hl), fun hl => h.2.2.2.1 ((he 7 (by simp)).trans hl), fun hl => h.2.2.2.2 ((he 7 (by simp)).trans hl)⟩
  · exact fun L w1 w2 hb h => ⟨h.1.trans (hb.mono h.1.size), old_below h.2.1 hb (row_lt h.2.1), fun hl => ownk_below (h.2.2.1 hl) hb (Nat.le_refl _), fun hl => old_below (h.2.2.2.1 hl) hb (row_lt (h.2.2.2.1 hl)), fun hl => by obtain ⟨v', h1, h2⟩ := h.2.2.2.2 hl; exact ⟨v', old_below h1 hb (row_lt h1), ownk_below h2 hb (Nat.le_refl _)⟩⟩
  · exact ⟨HB5.out, HZ5.out, fun _ => HO5.out, fun _ => HX5.out, (fun h => by cases h)⟩
  · simp
  intro us wr hG hH
  obtain ⟨-, -, -, -, -, -, -, -, -⟩ := hH
  simp only [fillM]
  generalize us 15 = v15
  generalize us 16 = v16
  generalize us 17 = v17
  generalize us 18 = v18
  generalize us 19 = v19
  generalize us 20 = v20
  generalize us 21 = v21
  obtain ⟨g1, g2, -, -, g5⟩ := hG
  obtain ⟨v', x1, x2⟩ := g5 rfl
  have HB6 := Lib.hid g1
  have HZ6 := Lib.hid g2
  have HX6 := Lib.hid x1
  have HO6 := Lib.hid x2
  clear g1 g2 g5 x1 x2
  go_wp2_with (first | (refine wpList_load_row rfl 28 _ rfl w.heap.size rfl 28 (sqC q v') (0, 0) _ HX6.out Try.underlying28 rfl (by kernel_rfl) ?_) | (refine wpList_store_row rfl 28 _ _ rfl (w.heap.size + 1) (sqC q v') rfl rfl 28 (Zsq) HZ6.out (by kernel_rfl) rfl (sqc_ones (own_one HO6.out)) ?_))
  refine ret_two (g := w.heap.size + 1) rfl rfl (setRow_heap _ _ _ _ _ _ HZ6.out) Try.underlying28 rfl (by kernel_rfl) rfl ?_
  exact ⟨v', rfl, own_set18 HO6.out HZ6.out (by decide) _, below_setRow HB6.out (by omega) _⟩
end Go.Proofs.Ytebflcpoecolbaa
