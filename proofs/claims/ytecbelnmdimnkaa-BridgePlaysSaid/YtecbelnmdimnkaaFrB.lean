/-
  The law's frame: two cards' addresses and a type, in a row of the call's own. No condition.
-/
import Derived.Test.YtecbelnmdimnkaaSmB
import Derived.Test.YtecbelnmdimnkaaApk
namespace Go.Proofs.Ytecbelnmdimnkaa
open Go.RowKit

theorem emp_mono : Mono Emp := fun _ _ _ _ h => h
/-- a frame's bytes -/
def frB (d s : Mac) : List UInt8 := d.bytes ++ s.bytes ++ [8, 0]
theorem frB_len (d s : Mac) : (frB d s).length = 14 := rfl
set_option maxRecDepth 100000 in
set_option maxHeartbeats 2000000 in
theorem frame_any (d s : Mac) (w : World) :
    Calls Try.prog 15 #[.agg (macA d), .agg (macA s)] w fun e w' => ∃ A c, e = .returned (.slice A 14 c) ∧ w'.ownsRow w.heap.size 5 1 (.slice A 14 c) 14 (cells (frB d s)) ∧ Below w.heap.size w w' := by
  obtain ⟨i0, hi0, hz0, hz1, hz2⟩ := info_parts info_u8
  have HIU := Lib.hid (And.intro hi0 (And.intro hz0 (And.intro hz1 hz2)))
  obtain ⟨w1, hw1⟩ : ∃ w1, (w.alloc (.cells (macA d) 46)).alloc (.cells (macA s) 46) = w1 := ⟨_, rfl⟩
  have HB1 : Hid (Below w.heap.size w w1) := by rw [← hw1]; exact ((Below.refl _ _).alloc (Nat.le_refl _) _).alloc (by simp) _
  have HRD : Hid (Rd w1 0 w1.heap.size (some ⟨w.heap.size, 0, none⟩) (cells d.bytes)) := by
    rw [← hw1]
    exact ((rd_new w (cells d.bytes) 46 (0, 0)).alloc (by simp) _).wide (Nat.zero_le _) (by simp)
  have HRS : Hid (Rd w1 0 w1.heap.size (some ⟨w.heap.size + 1, 0, none⟩) (cells s.bytes)) := by
    rw [← hw1]
    have := rd_new (w.alloc (.cells (macA d) 46)) (cells s.bytes) 46 (0, 0)
    rw [World.size_alloc] at this
    exact this.wide (Nat.zero_le _) (by simp)
  have HW := Lib.hid hw1
  clear hw1 hi0 hz0 hz1 hz2
  go_enter Try.func15, Try.ntmps15
  go_upto_region 1 with (fail)
  rw [HW.out]
  clear HW
  apply wp_region_relyG [4, 6] (fun _ w' => Below w1.heap.size w1 w') (RL [Emp, Is (.slice (some ⟨w.heap.size, 0, none⟩) 6 6), OwnL w1.heap.size 6 d.bytes, Is (.slice (some ⟨w.heap.size + 1, 0, none⟩) 6 6), OwnL w1.heap.size 12 (d.bytes ++ s.bytes), OwnL w1.heap.size 2 [8, 0], OwnL w1.heap.size 14 (d.bytes ++ s.bytes ++ [8, 0]), OwnL w1.heap.size 14 (d.bytes ++ s.bytes ++ [8, 0])]) [false, false, false, false, true, true, true, true, true, true, true, true]
  · kernel_rfl
  · kernel_rfl
  · kernel_rfl
  · refine ⟨?_, ?_, ?_, ?_, ?_, ?_, ?_, ?_, trivial⟩
    · intro L ev w' hC hL hx K hK
      have HK := Lib.hid hK
      have HC := Lib.hid hC
      have HL := Lib.hid hL
      have HX := Lib.hid hx
      have hc := hx.cst
      skip
      clear hx hK hC hL
      unfold Run
      simp [execOp, Upon, go_sem, *]
      exact HK.out _ _ (.inl ⟨(Below.refl _ _).alloc (Nat.le_refl _) _, by decide⟩) ⟨_, rfl⟩
    · intro L ev w' hC hL hx K hK
      have e2 : ev (.tmp 2) = _ := hx.base 2 (by kernel_rfl)
      have HK := Lib.hid hK
      have HC := Lib.hid hC
      have HL := Lib.hid hL
      have HX := Lib.hid hx
      have hc := hx.cst
      skip
      clear hx hK hC hL
      unfold Run
      simp [execOp, Upon, go_sem, *]
      exact HK.out _ _ (.inl ⟨Below.refl _ _, by decide⟩) rfl
    · intro L ev w' hC hL hx K hK
      have e5 := hx.held 0 _ rfl (by kernel_rfl)
      have e6 := hx.held 1 _ rfl (by kernel_rfl)
      change (Emp : Pred) (ev (.tmp 5)) w' at e5
      change ev (.tmp 6) = _ at e6
      have HK := Lib.hid hK
      have HC := Lib.hid hC
      have HL := Lib.hid hL
      have HX := Lib.hid hx
      have hc := hx.cst
      skip
      clear hx hK hC hL
      obtain ⟨b0, q5⟩ := e5
      have q6 : ev (.tmp 6) = .slice (some ⟨w.heap.size, 0, none⟩) 6 6 := e6
      obtain ⟨v', w2, hrun, r1, r2⟩ := run_append_arg_grows (P := Try.prog) w' 33 33 5 i0 (.int .u8 0) 1 1 Try.underlying33 HIU.out.1 HIU.out.2.1 HIU.out.2.2.1 HIU.out.2.2.2 rfl (by omega) b0 0 0 [] rfl (fun j u hu => by simp at hu) ⟨w.heap.size, 0, none⟩ 6 6 (cells d.bytes) rfl (fun j u hu => by
        obtain ⟨ad', e, _, _, hc⟩ := (HRD.out.below HC.out (Nat.le_refl _)) j u hu
        cases e
        exact hc) (by omega) (by unfold maxLen; omega) (by omega)
      have hbl : Below w'.heap.size w' w2 := ⟨r2.os, r2.tape, r2.output, r2.size, fun k hk => r2.block k hk (by simp)⟩
      rw [Nat.zero_add, List.nil_append] at r1
      unfold Run
      rw [run_appendE _ _ 33 rfl q5 q6 hrun]
      exact HK.out _ _ (.inl ⟨hbl, by decide⟩) (ownL_of (own_base r1 HC.out.size) (by decide))
    · intro L ev w' hC hL hx K hK
      have e3 : ev (.tmp 3) = _ := hx.base 3 (by kernel_rfl)
      have HK := Lib.hid hK
      have HC := Lib.hid hC
      have HL := Lib.hid hL
      have HX := Lib.hid hx
      have hc := hx.cst
      skip
      clear hx hK hC hL
      unfold Run
      simp [execOp, Upon, go_sem, *]
      exact HK.out _ _ (.inl ⟨Below.refl _ _, by decide⟩) rfl
    · intro L ev w' hC hL hx K hK
      have e7 := hx.held 2 _ rfl (by kernel_rfl)
      have e8 := hx.held 3 _ rfl (by kernel_rfl)
      change (OwnL w1.heap.size 6 d.bytes : Pred) (ev (.tmp 7)) w' at e7
      change ev (.tmp 8) = _ at e8
      have HK := Lib.hid hK
      have HC := Lib.hid hC
      have HL := Lib.hid hL
      have HX := Lib.hid hx
      have hc := hx.cst
      skip
      clear hx hK hC hL
      obtain ⟨g, c6, q7, r7⟩ := e7
      have q8 : ev (.tmp 8) = .slice (some ⟨w.heap.size + 1, 0, none⟩) 6 6 := e8
      obtain ⟨v', w2, hrun, r1, r2, r3⟩ := app_keep (P := Try.prog) (ty := 33) Try.underlying33 HIU.out.1 HIU.out.2.1 HIU.out.2.2.1 HIU.out.2.2.2 rfl r7 (A := some ⟨w.heap.size + 1, 0, none⟩) (k := 6) (m := 6) (fun h => by cases h) rfl (HRS.out.below HC.out (Nat.le_refl _)) (cells_one s.bytes) (by unfold maxLen; omega) (by omega) HC.out.size
      unfold Run
      rw [run_appendE _ _ 33 rfl q7 q8 hrun]
      have n6 : ¬ L 6 = true := fun h => by have := HX.out.closed 6 _ 4 rfl h (by kernel_rfl); rw [HL.out] at this; cases this
      have n7 : ¬ L 7 = true := fun h => n6 (HX.out.closed 7 _ 6 rfl h (by kernel_rfl))
      refine HK.out _ _ (.inr ⟨HC.out.trans r3, fun j hj hlj u hr => ?_⟩) ?_
      · rcases j with _ | _ | _ | _ | _ | _ | _ | _ | j
        · exact hr
        · exact hr
        · obtain ⟨g2, c2, h1, h2⟩ := hr
          exact ⟨g2, c2, h1, r2 _ _ _ (by decide) h2⟩
        · exact hr
        · exact absurd rfl hj
        · obtain ⟨g2, c2, h1, h2⟩ := hr
          exact ⟨g2, c2, h1, r2 _ _ _ (by decide) h2⟩
        · exact absurd hlj n6
        · exact absurd hlj n7
        · exact trivial
      · rw [← cells_append] at r1
        exact ownL_of r1 (by decide)
    · intro L ev w' hC hL hx K hK
      have HK := Lib.hid hK
      have HC := Lib.hid hC
      have HL := Lib.hid hL
      have HX := Lib.hid hx
      have hc := hx.cst
      skip
      clear hx hK hC hL
      have HSZ := Lib.hid HC.out.size
      unfold Run
      simp [execOp, Upon, go_sem, *]
      exact HK.out _ _ (.inl ⟨(Below.refl _ _).alloc (Nat.le_refl _) _, by decide⟩) ⟨_, _, rfl, own_lit w' (cells [8, 0]) _ _ _ 2 rfl HSZ.out (by decide) rfl⟩
    · intro L ev w' hC hL hx K hK
      have e9 := hx.held 4 _ rfl (by kernel_rfl)
      have e10 := hx.held 5 _ rfl (by kernel_rfl)
      change (OwnL w1.heap.size 12 (d.bytes ++ s.bytes) : Pred) (ev (.tmp 9)) w' at e9
      change (OwnL w1.heap.size 2 [8, 0] : Pred) (ev (.tmp 10)) w' at e10
      have HK := Lib.hid hK
      have HC := Lib.hid hC
      have HL := Lib.hid hL
      have HX := Lib.hid hx
      have hc := hx.cst
      skip
      clear hx hK hC hL
      obtain ⟨g, c6, q9, r9⟩ := e9
      obtain ⟨g3, c3, q10, r10⟩ := e10
      obtain ⟨v', w2, hrun, r1, r2, r3⟩ := app_keep (P := Try.prog) (ty := 33) Try.underlying33 HIU.out.1 HIU.out.2.1 HIU.out.2.2.1 HIU.out.2.2.2 rfl r9 (A := some ⟨g3, 0, none⟩) (k := c3) (m := 2) (fun h => by cases h) rfl (Rd.own r10) (cells_one [8, 0]) (by unfold maxLen; omega) (by omega) HC.out.size
      unfold Run
      rw [run_appendE _ _ 33 rfl q9 q10 hrun]
      have n7 : ¬ L 7 = true := fun h => by have := HX.out.closed 7 _ 6 rfl h (by kernel_rfl); rw [HL.out] at this; cases this
      refine HK.out _ _ (.inr ⟨HC.out.trans r3, fun j hj hlj u hr => ?_⟩) ?_
      · rcases j with _ | _ | _ | _ | _ | _ | _ | _ | j
        · exact hr
        · exact hr
        · obtain ⟨g2, c2, h1, h2⟩ := hr
          exact ⟨g2, c2, h1, r2 _ _ _ (by decide) h2⟩
        · exact hr
        · obtain ⟨g2, c2, h1, h2⟩ := hr
          exact ⟨g2, c2, h1, r2 _ _ _ (by decide) h2⟩
        · obtain ⟨g2, c2, h1, h2⟩ := hr
          exact ⟨g2, c2, h1, r2 _ _ _ (by decide) h2⟩
        · exact absurd rfl hj
        · exact absurd hlj n7
        · exact trivial
      · rw [← cells_append] at r1
        exact ownL_of r1 (by decide)
    · intro L ev w' hC hL hx K hK
      have e11 := hx.held 6 _ rfl (by kernel_rfl)
      change (OwnL w1.heap.size 14 (d.bytes ++ s.bytes ++ [8, 0]) : Pred) (ev (.tmp 11)) w' at e11
      have HK := Lib.hid hK
      have HC := Lib.hid hC
      have HL := Lib.hid hL
      have HX := Lib.hid hx
      have hc := hx.cst
      skip
      clear hx hK hC hL
      obtain ⟨g3, c3, q11, r11⟩ := e11
      have HR11 := Lib.hid r11
      clear r11
      unfold Run
      simp [execOp, Upon, go_sem, *]
      exact HK.out _ _ (.inl ⟨Below.refl _ _, by decide⟩) ⟨_, _, rfl, HR11.out⟩
  · exact rl_mono ⟨emp_mono, is_mono _, ownL_mono _ _ _, is_mono _, ownL_mono _ _ _, ownL_mono _ _ _, ownL_mono _ _ _, ownL_mono _ _ _, trivial⟩
  · exact fun _ _ _ _ h => h
  · exact fun _ w1 w2 hb h => h.trans (hb.mono h.size)
  · exact Below.refl _ _
  · simp
  intro us wr hG hH
  obtain ⟨-, -, -, -, -, -, -, h7, -⟩ := hH
  simp only [fillM]
  change (OwnL w1.heap.size 14 (d.bytes ++ s.bytes ++ [8, 0]) : Pred) (us 4) wr at h7
  generalize us 5 = v5
  generalize us 6 = v6
  generalize us 7 = v7
  generalize us 8 = v8
  generalize us 9 = v9
  generalize us 10 = v10
  generalize us 11 = v11
  generalize us 4 = v4 at h7 ⊢
  obtain ⟨g, c, e7, h7⟩ := h7
  rw [e7]
  have HB : Hid (Below w.heap.size w wr) := HB1.out.trans (hG.mono HB1.out.size)
  have H7 := Lib.hid h7
  have HSZ : Hid (w.heap.size ≤ w1.heap.size) := HB1.out.size
  clear h7 hG e7
  go_wp2
  go_ret
  exact ⟨_, _, rfl, own_base H7.out HSZ.out, HB.out⟩
end Go.Proofs.Ytecbelnmdimnkaa
