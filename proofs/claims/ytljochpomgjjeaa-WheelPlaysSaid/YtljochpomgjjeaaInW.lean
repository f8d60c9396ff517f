/-
  slices.Insert of one row. Every row, every place in it. No condition.
-/
import Derived.Test.YtljochpomgjjeaaClW
namespace Go.Proofs.Ytljochpomgjjeaa
open Go.RowKit

set_option maxRecDepth 100000 in
set_option maxHeartbeats 400000 in
theorem inW_end (A : Option Addr) (q c lo kb : Nat) (C : Array Value) (hC9 : C.size = 2) (hC1 : ∀ u ∈ C.toList, u.oneCell' = true) (xs : List Value) (w : World) (hown : w.ownsRow lo 53 2 (.slice A q c) q xs) (hkb : w.heap[kb]? = some (.cells C 53 (0, 0))) (hq : q ≤ 100000) (hlo : lo ≤ w.heap.size) :
    Calls Try.prog 20 #[.slice A q c, .int .i64 (q : Int), .slice (some ⟨kb, 0, none⟩) 1 1] w (InsPost 53 2 w lo (.slice A q c) (q + 1) (xs ++ C.toList)) := by
  obtain ⟨A', c', e, h1, h2, -⟩ := ownk_form hown
  injection e with e1 _ e3
  subst e1 e3
  obtain ⟨i0, hi0, hz0, hz1, hz2⟩ := parts_of info_W
  have hc2 : (q : Int) ≤ (c : Int) := by omega
  have hcm : c ≤ 9223372036854775807 := by unfold maxLen at h2; omega
  have HO := Lib.hid hown
  have HK := Lib.hid hkb
  have HC9 := Lib.hid hC9
  have HC1c := Lib.hid hC1
  have HLO := Lib.hid hlo
  unfold InsPost
  clear hown hkb hlo h2
  by_cases hc : c = q
  · subst hc
    go_enter Try.func20, Try.ntmps20
    go_wp2_with (at_builtin; refine wpList_append_elem (P := Try.prog) rfl _ _ 25 rfl lo 53 i0 _ 2 16 Try.underlying25 hi0 hz0 hz1 hz2 rfl (by omega) (.slice A c c) c xs rfl HO.out kb 1 C 53 (0, 0) rfl HK.out HC9.out HC1c.out (by unfold maxLen; omega) (by omega) HLO.out ?_)
    intro v9 w9 ho hg _
    have HO9 := Lib.hid ho
    have HG9 := Lib.hid hg
    clear ho hg
    go_wp2
    go_ret
    exact ⟨_, rfl, HO9.out, HG9.out⟩
  · go_enter Try.func20, Try.ntmps20
    go_wp2_with (at_builtin; refine wpList_append_elem (P := Try.prog) rfl _ _ 25 rfl lo 53 i0 _ 2 16 Try.underlying25 hi0 hz0 hz1 hz2 rfl (by omega) (.slice A q c) q xs rfl HO.out kb 1 C 53 (0, 0) rfl HK.out HC9.out HC1c.out (by unfold maxLen; omega) (by omega) HLO.out ?_)
    intro v9 w9 ho hg _
    have HO9 := Lib.hid ho
    have HG9 := Lib.hid hg
    clear ho hg
    go_wp2
    go_ret
    exact ⟨_, rfl, HO9.out, HG9.out⟩

set_option maxRecDepth 100000 in
set_option maxHeartbeats 400000 in
theorem inW_room (g q c i lo kb : Nat) (C : Array Value) (hC9 : C.size = 2) (hC1 : ∀ u ∈ C.toList, u.oneCell' = true) (xs : List Value) (w : World) (hown : w.ownsRow lo 53 2 (.slice (some ⟨g, 0, none⟩) q c) q xs) (h1x : ∀ u ∈ xs, u.oneCell' = true) (hkb : w.heap[kb]? = some (.cells C 53 (0, 0))) (hne : kb ≠ g) (hq : q ≤ 100000) (hi : i < q) (hr : q + 1 ≤ c) :
    Calls Try.prog 20 #[.slice (some ⟨g, 0, none⟩) q c, .int .i64 (i : Int), .slice (some ⟨kb, 0, none⟩) 1 1] w (InsPost 53 2 w lo (.slice (some ⟨g, 0, none⟩) q c) (q + 1) (xs.take (i * 2) ++ C.toList ++ xs.drop (i * 2))) := by
  obtain ⟨cur, hg, hlo, -, hcm, hcs, htk⟩ := own_at0 hown (by omega)
  have hxl := hown.1
  have hcm2 : c ≤ 9223372036854775807 := by unfold maxLen at hcm; omega
  have hsz : (Try.prog.info? 53).map (·.size) = some 2 := by kernel_rfl
  have hov : ∀ ad lb cb, (callFunc 25 #[.slice (some ⟨kb, 0, none⟩) 1 1, .slice (some ⟨g, ad, none⟩) lb cb]).run Try.prog w = .ok (.value (.bool false)) w := fun ad lb cb => by
    rw [run_callFunc_extern Try.func25 (by kernel_rfl) (by kernel_rfl) (by kernel_rfl) (e := Extern.SlicesOverlaps.overlaps #[25, 25] #[4]) (by kernel_rfl),
      Lib.run_overlaps_apart w 25 4 53 Try.underlying25 2 (fun w => by kernel_rfl) ⟨kb, 0, none⟩ ⟨g, ad, none⟩ 1 1 lb cb hne 53 53 2 cur.size (by simp [World.shape?, hkb, hC9]) (by simp [World.shape?, hg]) (by omega) (frozen_of_row _ _ _ _ _ hkb) (frozen_of_row _ _ _ _ _ hkb)]
    rfl
  obtain ⟨cur1, hcur1⟩ : ∃ cur1 : Array Value, (cur.toList.take ((i + 1) * 2) ++ xs.drop (i * 2) ++ cur.toList.drop ((i + 1) * 2 + (xs.drop (i * 2)).length)).toArray = cur1 := ⟨_, rfl⟩
  have hdl : (xs.drop (i * 2)).length = (q - i) * 2 := by rw [List.length_drop, hxl, ← Nat.sub_mul]
  have HCP : Hid (∀ w' : World, w'.heap[g]? = some (.cells cur 53 (0, 0)) → (Builtin.copy_ #[25, 25] 3 #[.slice (some ⟨g, (i + 1) * 2, none⟩) (q - i) (c - (i + 1)), .slice (some ⟨g, i * 2, none⟩) (q + 1 - i) (c - i)]).run Try.prog w' = .ok (goInt (Nat.min (q + 1 - i) (q - i))) (w'.setRow g cur1)) := fun w' hg' => by
    rw [← hcur1]
    exact run_copy_rowk w' _ _ _ 53 2 g ((i + 1) * 2) (q - i) (c - (i + 1)) ⟨g, i * 2, none⟩ (q + 1 - i) (c - i) cur _ (xs.drop (i * 2)) Try.underlying25 hsz hg' (by rw [hdl]; congr 1; simp only [Nat.min_def]; split <;> omega) (fun j v hj => by
      rw [Addr.add_mid, cell_of_row _ _ _ _ _ _ hg', ← Array.getElem?_toList]
      rw [List.getElem?_drop, ← htk, List.getElem?_take] at hj
      split at hj
      · exact hj
      · cases hj) (by rw [hdl, hcs]; omega) (fun v hv => h1x v (List.mem_of_mem_drop hv))
  have HG := Lib.hid hg
  have HXL := Lib.hid hxl
  have HTK := Lib.hid htk
  have HCS := Lib.hid hcs
  have HC1 := Lib.hid hcur1
  have HDL := Lib.hid hdl
  have HK := Lib.hid hkb
  have HC9 := Lib.hid hC9
  have HC1c := Lib.hid hC1
  have HLO := Lib.hid hlo
  clear hg hxl htk hcs hcur1 hdl hkb hlo hown h1x hcm
  have hb1 : ¬ ((i : Int) = (q : Int)) := by omega
  have hb2 : (i : Int) ≤ (q : Int) := by omega
  have hb3 : ¬ (c = i) := by omega
  have hb4 : ¬ (c = i + 1) := by omega
  have hb5 : (q : Int) + 1 ≤ (c : Int) := by omega
  have hb6 : (i : Int) + 1 ≤ (q : Int) + 1 := by omega
  have hw1 : IntKind.i64.wrap ((i : Int) + 1) = (i : Int) + 1 := IntWalk.i64_in _ ⟨by omega, by omega⟩
  unfold InsPost
  go_enter Try.func20, Try.ntmps20
  go_wp2_with (simp only [hov])
  clear hov
  apply wp_region_relyG [8] (fun L w' => w.grownBy w' (some g) ∧ w'.heap[g]? = some (.cells (if L 8 then cur1 else cur) 53 (0, 0))) (RL [Is _, Is _, Is _, Is _, Is (.slice (some ⟨g, (i + 1) * 2, none⟩) (q - i) (c - (i + 1))), Is _, Is _, Is (.slice (some ⟨g, i * 2, none⟩) (q + 1 - i) (c - i)), Any]) [false, false, false, false, false, false, false, false, false, false, false, false, false, false, false, false, false, false, false, false, false, false, false, false, false, false, false, false, false, false, false, false, false, false, false, false, false, false, false, false, false, false, false, false, false, false, false, false, false, false, false, false, false, false, false, false, false, false, false, false, false, false, false, false, false, false, false, false, false, true, true, true, true, true, true, true, true, true, false, false, false, false, false, false, false, false, false, false, false, false, false, false, false, false, false]
  · kernel_rfl
  · kernel_rfl
  · kernel_rfl
  · refine ⟨?_, ?_, ?_, ?_, ?_, ?_, ?_, ?_, ?_, trivial⟩
    · intro L ev w' hC hL hx K hK
      have e0 : ev (.tmp 0) = _ := hx.base 0 (by kernel_rfl)
      have HK := Lib.hid hK
      have HC := Lib.hid hC
      have HL := Lib.hid hL
      have HX := Lib.hid hx
      have hc := hx.cst
      skip
      clear hx hK hC hL
      unfold Run
      simp [execOp, Upon, go_sem, *]
      exact HK.out _ _ (.inl ⟨Below.refl _ _, by decide⟩) rfl
    · intro L ev w' hC hL hx K hK
      have e1 : ev (.tmp 1) = _ := hx.base 1 (by kernel_rfl)
      have HK := Lib.hid hK
      have HC := Lib.hid hC
      have HL := Lib.hid hL
      have HX := Lib.hid hx
      have hc := hx.cst
      skip
      clear hx hK hC hL
      unfold Run
      simp [execOp, Upon, go_sem, *]
      exact HK.out _ _ (.inl ⟨Below.refl _ _, by decide⟩) rfl
    · intro L ev w' hC hL hx K hK
      have e7 : ev (.tmp 7) = _ := hx.base 7 (by kernel_rfl)
      have HK := Lib.hid hK
      have HC := Lib.hid hC
      have HL := Lib.hid hL
      have HX := Lib.hid hx
      have hc := hx.cst
      skip
      clear hx hK hC hL
      unfold Run
      simp [execOp, Upon, go_sem, *]
      exact HK.out _ _ (.inl ⟨Below.refl _ _, by decide⟩) rfl
    · intro L ev w' hC hL hx K hK
      have e70 := hx.held 1 _ rfl (by kernel_rfl)
      have e71 := hx.held 2 _ rfl (by kernel_rfl)
      change ev (.tmp 70) = _ at e70
      change ev (.tmp 71) = _ at e71
      have HK := Lib.hid hK
      have HC := Lib.hid hC
      have HL := Lib.hid hL
      have HX := Lib.hid hx
      have hc := hx.cst
      skip
      clear hx hK hC hL
      unfold Run
      simp [execOp, Upon, go_sem, *]
      exact HK.out _ _ (.inl ⟨Below.refl _ _, by decide⟩) rfl
    · intro L ev w' hC hL hx K hK
      have e69 := hx.held 0 _ rfl (by kernel_rfl)
      have e72 := hx.held 3 _ rfl (by kernel_rfl)
      change ev (.tmp 69) = _ at e69
      change ev (.tmp 72) = _ at e72
      have HK := Lib.hid hK
      have HC := Lib.hid hC
      have HL := Lib.hid hL
      have HX := Lib.hid hx
      have hc := hx.cst
      skip
      clear hx hK hC hL
      have q69 : ev (.tmp 69) = .slice (some ⟨g, 0, none⟩) (q + 1) c := e69
      have hrun : (Instr.slice 25 (.slice (some ⟨g, 0, none⟩) (q + 1) c) (some (ev (.tmp 72))) none none).run Try.prog w' = .ok (.slice (some ⟨g, (i + 1) * 2, none⟩) (q - i) (c - (i + 1))) w' := by
        rw [e72]
        rw [show (i : Int) + 1 = ((i + 1 : Nat) : Int) from by omega]
        have := run_slice_l (P := Try.prog) 25 53 2 Try.underlying25 (by kernel_rfl) (some ⟨g, 0, none⟩) (q + 1) c (i + 1) (by omega) w'
        rw [if_neg (by omega), Option.map_some, Addr.add_mid, Nat.zero_add, show q + 1 - (i + 1) = q - i from by omega] at this
        exact this
      unfold Run
      rw [run_sliceE 25 _ (some _) none rfl Try.underlying25 q69 hrun]
      exact HK.out _ _ (.inl ⟨Below.refl _ _, by decide⟩) rfl
    · intro L ev w' hC hL hx K hK
      have e0 : ev (.tmp 0) = _ := hx.base 0 (by kernel_rfl)
      have HK := Lib.hid hK
      have HC := Lib.hid hC
      have HL := Lib.hid hL
      have HX := Lib.hid hx
      have hc := hx.cst
      skip
      clear hx hK hC hL
      unfold Run
      simp [execOp, Upon, go_sem, *]
      exact HK.out _ _ (.inl ⟨Below.refl _ _, by decide⟩) rfl
    · intro L ev w' hC hL hx K hK
      have e1 : ev (.tmp 1) = _ := hx.base 1 (by kernel_rfl)
      have HK := Lib.hid hK
      have HC := Lib.hid hC
      have HL := Lib.hid hL
      have HX := Lib.hid hx
      have hc := hx.cst
      skip
      clear hx hK hC hL
      unfold Run
      simp [execOp, Upon, go_sem, *]
      exact HK.out _ _ (.inl ⟨Below.refl _ _, by decide⟩) rfl
    · intro L ev w' hC hL hx K hK
      have e74 := hx.held 5 _ rfl (by kernel_rfl)
      have e75 := hx.held 6 _ rfl (by kernel_rfl)
      change ev (.tmp 74) = _ at e74
      change ev (.tmp 75) = _ at e75
      have HK := Lib.hid hK
      have HC := Lib.hid hC
      have HL := Lib.hid hL
      have HX := Lib.hid hx
      have hc := hx.cst
      skip
      clear hx hK hC hL
      have q74 : ev (.tmp 74) = .slice (some ⟨g, 0, none⟩) (q + 1) c := e74
      have hrun : (Instr.slice 25 (.slice (some ⟨g, 0, none⟩) (q + 1) c) (some (ev (.tmp 75))) none none).run Try.prog w' = .ok (.slice (some ⟨g, i * 2, none⟩) (q + 1 - i) (c - i)) w' := by
        rw [e75]
        have := run_slice_l (P := Try.prog) 25 53 2 Try.underlying25 (by kernel_rfl) (some ⟨g, 0, none⟩) (q + 1) c i (by omega) w'
        rw [if_neg (by omega), Option.map_some, Addr.add_mid, Nat.zero_add] at this
        exact this
      unfold Run
      rw [run_sliceE 25 _ (some _) none rfl Try.underlying25 q74 hrun]
      exact HK.out _ _ (.inl ⟨Below.refl _ _, by decide⟩) rfl
    · intro L ev w' hC hL hx K hK
      have e73 := hx.held 4 _ rfl (by kernel_rfl)
      have e76 := hx.held 7 _ rfl (by kernel_rfl)
      change ev (.tmp 73) = _ at e73
      change ev (.tmp 76) = _ at e76
      have HK := Lib.hid hK
      have HC := Lib.hid hC
      have HL := Lib.hid hL
      have HX := Lib.hid hx
      have hc := hx.cst
      skip
      clear hx hK hC hL
      have hC := HC.out
      rw [HL.out] at hC
      obtain ⟨hC1, hC2⟩ := hC
      have hrun := HCP.out w' hC2
      have q73 : ev (.tmp 73) = .slice (some ⟨g, (i + 1) * 2, none⟩) (q - i) (c - (i + 1)) := e73
      have q76 : ev (.tmp 76) = .slice (some ⟨g, i * 2, none⟩) (q + 1 - i) (c - i) := e76
      have HC1 := Lib.hid hC1
      have HC2 := Lib.hid hC2
      clear hC1 hC2
      unfold Run
      rw [run_copyE _ _ 25 25 rfl q73 q76 hrun]
      refine HK.out _ _ (.inr ⟨⟨grown_setRow HC1.out _, setRow_heap _ _ _ _ _ _ HC2.out⟩, fun j hj hlj u hr => rl_sg (S := fun _ _ => True) (ex := []) 0 (by exact ⟨.inr (is_sg _ _), .inr (is_sg _ _), .inr (is_sg _ _), .inr (is_sg _ _), .inr (is_sg _ _), .inr (is_sg _ _), .inr (is_sg _ _), .inr (is_sg _ _), .inr (fun _ _ _ _ _ => trivial), trivial⟩) j u _ _ rfl trivial hr⟩) trivial
  · exact rl_mono ⟨is_mono _, is_mono _, is_mono _, is_mono _, is_mono _, is_mono _, is_mono _, is_mono _, any_mono, trivial⟩
  · exact fun L L' w1 he h => ⟨h.1, by rw [← he 8 (by simp)]; exact h.2⟩
  · exact fun L w1 w2 hb h => ⟨grown_below h.1 hb, (hb.block _ (row_lt h.2)).trans h.2⟩
  · exact ⟨World.grownBy.refl _ _, HG.out⟩
  · simp
  intro us wr hG hH
  obtain ⟨-, -, -, -, -, -, -, -, -, -⟩ := hH
  simp only [fillM]
  generalize us 69 = v69
  generalize us 70 = v70
  generalize us 71 = v71
  generalize us 72 = v72
  generalize us 73 = v73
  generalize us 74 = v74
  generalize us 75 = v75
  generalize us 76 = v76
  generalize us 77 = v77
  clear hw1
  obtain ⟨g1, g2⟩ := hG
  have HG1 := Lib.hid g1
  have HG2 : Hid (wr.heap[g]? = some (.cells cur1 53 (0, 0))) := g2
  clear g1 g2
  have hs1 : cur1.size = c * 2 := by
    rw [← HC1.out]
    simp only [List.size_toArray, List.length_append, List.length_take, List.length_drop, Array.length_toList, HCS.out, HXL.out]
    omega
  obtain ⟨cur2, hcur2⟩ : ∃ cur2 : Array Value, (cur1.toList.take (i * 2) ++ C.toList ++ cur1.toList.drop (i * 2 + 2)).toArray = cur2 := ⟨_, rfl⟩
  have hkw : wr.heap[kb]? = some (.cells C 53 (0, 0)) := (HG1.out.block kb (row_lt HK.out) (fun e => hne (by injection e))).trans HK.out
  have hcp : Hid ((Builtin.copy_ #[25, 25] 3 #[.slice (some ⟨g, i * 2, none⟩) (q + 1 - i) (c - i), .slice (some ⟨kb, 0, none⟩) 1 1]).run Try.prog wr = .ok (goInt 1) (wr.setRow g cur2)) := by
    have := run_copy_rowk (P := Try.prog) wr 25 25 3 53 2 g (i * 2) (q + 1 - i) (c - i) ⟨kb, 0, none⟩ 1 1 cur1 _ C.toList Try.underlying25 hsz HG2.out (by simp only [Nat.min_def, Array.length_toList, hC9]; split <;> omega) (fun j v hj => by
      rw [Addr.add_mid, cell_of_row _ _ _ _ _ _ hkw, Nat.zero_add]
      simpa using hj) (by simp only [hs1, Array.length_toList, hC9]; omega) hC1
    rw [show Nat.min 1 (q + 1 - i) = 1 from Nat.min_eq_left (by omega), Array.length_toList, hC9] at this
    rw [← hcur2]
    exact this
  have HW2 := Lib.hid (setRow_heap wr g cur1 cur2 _ _ HG2.out)
  have HB2 := Lib.hid (grown_setRow HG1.out cur2)
  have HC2 : Hid (cur2.size = c * 2 ∧ cur2.toList.take ((q + 1) * 2) = xs.take (i * 2) ++ C.toList ++ xs.drop (i * 2)) := by
    have e1 : cur.toList.take (i * 2) = xs.take (i * 2) := by rw [← HTK.out, List.take_take, Nat.min_eq_left (by omega)]
    have e2 : cur1.toList.take (i * 2) = xs.take (i * 2) := by
      rw [← HC1.out]
      show (cur.toList.take ((i + 1) * 2) ++ _ ++ _).take (i * 2) = _
      rw [List.append_assoc, List.take_append_of_le_length (by rw [List.length_take, Array.length_toList, HCS.out]; omega), List.take_take, Nat.min_eq_left (by omega), e1]
    have e3 : (cur1.toList.drop (i * 2 + 2)).take ((q - i) * 2) = xs.drop (i * 2) := by
      rw [← HC1.out]
      show ((cur.toList.take ((i + 1) * 2) ++ _ ++ _).drop (i * 2 + 2)).take _ = _
      rw [List.append_assoc, List.drop_left' (by rw [List.length_take, Array.length_toList, HCS.out]; omega), List.take_left' HDL.out]
    have e4 : (cur1.toList.take (i * 2)).length = i * 2 := by rw [List.length_take, Array.length_toList, hs1]; omega
    rw [← hcur2]
    refine ⟨by simp only [List.size_toArray, List.length_append, List.length_take, List.length_drop, Array.length_toList, hs1, Array.length_toList, hC9]; omega, ?_⟩
    show (cur1.toList.take (i * 2) ++ C.toList ++ _).take _ = _
    rw [List.take_append, List.take_of_length_le (by rw [List.length_append, e4]; simp only [Array.length_toList, hC9]; omega), List.length_append, e4, e2, show (q + 1) * 2 - (i * 2 + C.toList.length) = (q - i) * 2 from by simp only [Array.length_toList, hC9]; omega, e3]
  clear hs1 hcur2 hkw
  have hcp1 := hcp.out
  go_wp2
  go_ret
  refine ⟨_, rfl, ⟨?_, .inr ⟨g, c, cur2, rfl, HLO.out, HW2.out, by omega, by unfold maxLen; omega, HC2.out.1, HC2.out.2⟩⟩, HB2.out⟩
  rw [List.length_append, List.length_append, List.length_take, List.length_drop, HXL.out]
  simp only [Array.length_toList, hC9]
  omega

theorem zsizeW (n : Nat) : (Builtin.zeroCells (Value.agg zeroW).cells n).size = n * 2 := by
  simp [Builtin.zeroCells, Value.cells, zeroW]
  try omega
set_option maxRecDepth 100000 in
set_option maxHeartbeats 400000 in
theorem inW_grow (g q i lo kb : Nat) (C : Array Value) (hC9 : C.size = 2) (hC1 : ∀ u ∈ C.toList, u.oneCell' = true) (xs : List Value) (w : World) (hown : w.ownsRow lo 53 2 (.slice (some ⟨g, 0, none⟩) q q) q xs) (h1x : ∀ u ∈ xs, u.oneCell' = true) (hkb : w.heap[kb]? = some (.cells C 53 (0, 0))) (hq : q ≤ 100000) (hi : i < q) (hll : lo ≤ w.heap.size) :
    Calls Try.prog 20 #[.slice (some ⟨g, 0, none⟩) q q, .int .i64 (i : Int), .slice (some ⟨kb, 0, none⟩) 1 1] w (InsPost 53 2 w lo (.slice (some ⟨g, 0, none⟩) q q) (q + 1) (xs.take (i * 2) ++ C.toList ++ xs.drop (i * 2))) := by
  obtain ⟨cur, hg, hlo, -, hcm, hcs, htk⟩ := own_at0 hown (by omega)
  have hxl := hown.1
  have hsz : (Try.prog.info? 53).map (·.size) = some 2 := by kernel_rfl
  obtain ⟨i0, hi0, hz0, hzs, hzb⟩ := parts_of info_W
  have hrd : ∀ j v, xs[j]? = some v → w.cell? ⟨g, j, none⟩ = some v := fun j v hj => own_cell hown hj
  have hold : (Builtin.firstCells i0.size i (.slice (some ⟨g, 0, none⟩) i q)).run Try.prog w.drew = .ok (xs.take (i * 2)).toArray w.drew := by
    rw [hzs]
    exact run_firstCells_some w.drew 2 i ⟨g, 0, none⟩ i q (xs.take (i * 2)) (by rw [List.length_take]; omega) (fun j v hj => by
      rw [Addr.add_mid, Nat.zero_add]
      rw [List.getElem?_take] at hj
      split at hj
      · exact hrd j v hj
      · cases hj)
  have hik : i + (q + 1 - i) = q + 1 := by omega
  have hkk : (q : Int) + 1 - (i : Int) = ((q + 1 - i : Nat) : Int) := by omega
  obtain ⟨Cp, hC⟩ : ∃ Cp, grownCap w (q + 1) q 53 = Cp := ⟨_, rfl⟩
  have hCn : q + 1 ≤ Cp := by rw [← hC]; exact grownCap_ge w _ _ _
  have hCm : Cp ≤ maxLen := by rw [← hC]; exact grownCap_le_maxLen w (q + 1) q 53 (by unfold maxLen; omega)
  have hCm2 : Cp ≤ 9223372036854775807 := by unfold maxLen at hCm; omega
  obtain ⟨row1, hrow1⟩ : ∃ row1 : Array Value, (xs.take (i * 2)).toArray ++ Builtin.zeroCells (Value.agg zeroW).cells (q + 1 - i) ++ Builtin.zeroCells (Value.agg zeroW).cells (Cp - (q + 1)) = row1 := ⟨_, rfl⟩
  have hrz : Hid ((Builtin.append_ #[25, 3] 25 #[.slice (some ⟨g, 0, none⟩) i q, .int .i64 ((q : Int) + 1 - (i : Int))]).run Try.prog w = .ok (.slice (some ⟨w.heap.size, 0, none⟩) (q + 1) Cp) (w.drew.alloc (.cells row1 53))) := by
    have h := Lib.run_append_grow_zeros (P := Try.prog) w 25 3 25 53 i0 _ .i64 .i64 Try.underlying25 Try.underlying3 hi0 hz0 (some ⟨g, 0, none⟩) i q (xs.take (i * 2)) hold (q + 1 - i) (by omega) (by omega) (by omega) (by omega) (by rw [hzb]; omega) (by rw [hzb, hik]; exact growslice_fits (by omega) (by omega))
    rw [hik, hC, hrow1] at h
    rw [hkk]
    exact h
  have hs1 : row1.size = Cp * 2 := by
    rw [← hrow1]
    simp only [Array.size_append, zsizeW, List.size_toArray, List.length_take, hxl]
    omega
  have hr1 : row1.toList.take (i * 2) = xs.take (i * 2) := by
    rw [← hrow1]
    simp only [Array.toList_append, List.append_assoc]
    rw [List.take_left' (by simp only [List.length_take, hxl]; omega)]
  have hb1 : ¬ ((i : Int) = (q : Int)) := by omega
  have hb2 : (i : Int) ≤ (q : Int) := by omega
  have hb3 : ¬ (q = i) := by omega
  have hb4 : ¬ (Cp = i) := by omega
  have hb5 : ¬ (Cp = i + 1) := by omega
  have hb6 : (q : Int) < (q : Int) + 1 := by omega
  have hb7 : (i : Int) + 1 ≤ (q : Int) + 1 := by omega
  obtain ⟨N, hN⟩ : ∃ N, w.heap.size = N := ⟨_, rfl⟩
  have HG0 := Lib.hid hg
  have HXL := Lib.hid hxl
  have HTK := Lib.hid htk
  have HCS := Lib.hid hcs
  have HK := Lib.hid hkb
  have HC9 := Lib.hid hC9
  have HC1c := Lib.hid hC1
  have HLL := Lib.hid hll
  have HS1 := Lib.hid hs1
  have HR1 := Lib.hid hr1
  have HRD := Lib.hid hrd
  have H1X := Lib.hid h1x
  have HCM := Lib.hid hCm
  have hw1 : IntKind.i64.wrap ((i : Int) + 1) = (i : Int) + 1 := IntWalk.i64_in _ ⟨by omega, by omega⟩
  obtain ⟨w1, hw1'⟩ : ∃ w1, w.drew.alloc (.cells row1 53) = w1 := ⟨_, rfl⟩
  have hrz1 := hrz.out
  rw [hw1', hN] at hrz1
  have HB1 : Hid (Below w.heap.size w w1) := by rw [← hw1']; exact (below_drewN' (Below.refl _ _) 1).alloc (Nat.le_refl _) _
  have HG1 : Hid (w1.heap[N]? = some (.cells row1 53 (0, 0))) := by rw [← hw1', ← hN]; exact heap_alloc_new w.drew _
  have HKL : Hid (kb < w.heap.size) := row_lt hkb
  have HGL : Hid (g < w.heap.size) := row_lt hg
  have HN := Lib.hid hN
  obtain ⟨row2, hrow2⟩ : ∃ row2 : Array Value, (row1.toList.take (i * 2) ++ C.toList ++ row1.toList.drop (i * 2 + 2)).toArray = row2 := ⟨_, rfl⟩
  have hs2 : row2.size = Cp * 2 := by
    rw [← hrow2]
    simp only [List.size_toArray, List.length_append, List.length_take, List.length_drop, Array.length_toList, hs1, Array.length_toList, hC9]
    omega
  have hr2 : row2.toList.take ((i + 1) * 2) = xs.take (i * 2) ++ C.toList := by
    rw [← hrow2]
    show (row1.toList.take (i * 2) ++ _ ++ _).take _ = _
    rw [List.take_left' (by simp only [List.length_append, List.length_take, Array.length_toList, hs1, Array.length_toList, hC9]; omega), hr1]
  have hcp : (Builtin.copy_ #[25, 25] 3 #[.slice (some ⟨N, i * 2, none⟩) (q + 1 - i) (Cp - i), .slice (some ⟨kb, 0, none⟩) 1 1]).run Try.prog w1 = .ok (goInt 1) (w1.setRow N row2) := by
    have hkw := old_below hkb HB1.out HKL.out
    have := run_copy_rowk (P := Try.prog) w1 25 25 3 53 2 N (i * 2) (q + 1 - i) (Cp - i) ⟨kb, 0, none⟩ 1 1 row1 _ C.toList Try.underlying25 hsz HG1.out (by simp only [Nat.min_def, Array.length_toList, hC9]; split <;> omega) (fun j v hj => by
      rw [Addr.add_mid, cell_of_row _ _ _ _ _ _ hkw, Nat.zero_add]
      simpa using hj) (by simp only [hs1, Array.length_toList, hC9]; omega) hC1
    rw [show Nat.min 1 (q + 1 - i) = 1 from Nat.min_eq_left (by omega), Array.length_toList, hC9] at this
    rw [← hrow2]
    exact this
  have HB2 : Hid (Below w.heap.size w (w1.setRow N row2)) := below_setRow HB1.out (by omega) _
  have HG2 := Lib.hid (setRow_heap w1 N row1 row2 _ _ HG1.out)
  have HS2 := Lib.hid hs2
  have HR2 := Lib.hid hr2
  obtain ⟨w2, hw2⟩ : ∃ w2, w1.setRow N row2 = w2 := ⟨_, rfl⟩
  rw [hw2] at hcp HB2 HG2
  obtain ⟨row3, hrow3⟩ : ∃ row3 : Array Value, (row2.toList.take ((i + 1) * 2) ++ xs.drop (i * 2) ++ row2.toList.drop ((i + 1) * 2 + (xs.drop (i * 2)).length)).toArray = row3 := ⟨_, rfl⟩
  have hdl : (xs.drop (i * 2)).length = (q - i) * 2 := by rw [List.length_drop, hxl, ← Nat.sub_mul]
  have HC3 : Hid (row3.size = Cp * 2 ∧ row3.toList.take ((q + 1) * 2) = xs.take (i * 2) ++ C.toList ++ xs.drop (i * 2)) := by
    rw [← hrow3]
    refine ⟨by simp only [List.size_toArray, List.length_append, List.length_take, List.length_drop, Array.length_toList, hs2, hxl]; omega, ?_⟩
    show (row2.toList.take ((i + 1) * 2) ++ _ ++ _).take _ = _
    rw [List.take_left' (by rw [List.length_append, hdl, List.length_take, Array.length_toList, hs2]; omega), hr2]
  have HCP : Hid (∀ w' : World, w'.heap[N]? = some (.cells row2 53 (0, 0)) → (∀ k, k < w.heap.size → w'.heap[k]? = w.heap[k]?) → (Builtin.copy_ #[25, 25] 3 #[.slice (some ⟨N, (i + 1) * 2, none⟩) (q - i) (Cp - (i + 1)), .slice (some ⟨g, i * 2, none⟩) (q - i) (q - i)]).run Try.prog w' = .ok (goInt (Nat.min (q - i) (q - i))) (w'.setRow N row3)) := fun w' hg' hold' => by
    rw [← hrow3]
    exact run_copy_rowk w' _ _ _ 53 2 N ((i + 1) * 2) (q - i) (Cp - (i + 1)) ⟨g, i * 2, none⟩ (q - i) (q - i) row2 _ (xs.drop (i * 2)) Try.underlying25 hsz hg' (by rw [hdl]; congr 1; simp only [Nat.min_def]; split <;> omega) (fun j v hj => by
      rw [Addr.add_mid, World.cell?_of_block (w := w) (w' := w') (hold' g HGL.out)]
      rw [List.getElem?_drop] at hj
      exact hrd _ v hj) (by rw [hdl, hs2]; omega) (fun v hv => h1x v (List.mem_of_mem_drop hv))
  unfold InsPost
  clear hkk hik hrow3 hrow2 hdl hs2 hr2 hs1 hr1 hrd hold hg hxl htk hcs hkb hll h1x hCm hlo hown hrow1 hC hz0 hzs hzb hcm
  go_enter Try.func20, Try.ntmps20
  go_wp2_with (at_builtin; refine wpList_append_eq rfl _ _ 25 3 rfl (.slice (some ⟨g, 0, none⟩) i q) (.int .i64 ((q : Int) + 1 - (i : Int))) rfl rfl 25 rfl hrz1 ?_)
  clear hcp hrz1
  apply wp_region_relyG [8] (fun L w' => Below w.heap.size w w' ∧ w'.heap[N]? = some (.cells (if L 8 then row3 else row2) 53 (0, 0))) (RL [Is _, Is _, Is _, Is _, Is (.slice (some ⟨N, (i + 1) * 2, none⟩) (q - i) (Cp - (i + 1))), Is _, Is _, Is (.slice (some ⟨g, i * 2, none⟩) (q - i) (q - i)), Any]) [false, false, false, false, false, false, false, false, false, false, false, false, false, false, false, false, false, false, false, false, false, false, false, false, false, false, false, false, false, false, false, false, false, false, false, false, false, false, false, false, false, false, false, false, false, false, true, true, true, true, true, true, true, true, true, false, false, false, false, false, false, false, false, false, false, false, false, false, false, false, false, false, false, false, false, false, false, false, false, false, false, false, false, false, false, false, false, false, false, false, false, false, false, false, false]
  · kernel_rfl
  · kernel_rfl
  · kernel_rfl
  · refine ⟨?_, ?_, ?_, ?_, ?_, ?_, ?_, ?_, ?_, trivial⟩
    · intro L ev w' hC hL hx K hK
      have e9 : ev (.tmp 9) = _ := hx.base 9 (by kernel_rfl)
      have HK := Lib.hid hK
      have HC := Lib.hid hC
      have HL := Lib.hid hL
      have HX := Lib.hid hx
      have hc := hx.cst
      skip
      clear hx hK hC hL
      unfold Run
      simp [execOp, Upon, go_sem, *]
      exact HK.out _ _ (.inl ⟨Below.refl _ _, by decide⟩) rfl
    · intro L ev w' hC hL hx K hK
      have e1 : ev (.tmp 1) = _ := hx.base 1 (by kernel_rfl)
      have HK := Lib.hid hK
      have HC := Lib.hid hC
      have HL := Lib.hid hL
      have HX := Lib.hid hx
      have hc := hx.cst
      skip
      clear hx hK hC hL
      unfold Run
      simp [execOp, Upon, go_sem, *]
      exact HK.out _ _ (.inl ⟨Below.refl _ _, by decide⟩) rfl
    · intro L ev w' hC hL hx K hK
      have e7 : ev (.tmp 7) = _ := hx.base 7 (by kernel_rfl)
      have HK := Lib.hid hK
      have HC := Lib.hid hC
      have HL := Lib.hid hL
      have HX := Lib.hid hx
      have hc := hx.cst
      skip
      clear hx hK hC hL
      unfold Run
      simp [execOp, Upon, go_sem, *]
      exact HK.out _ _ (.inl ⟨Below.refl _ _, by decide⟩) rfl
    · intro L ev w' hC hL hx K hK
      have e47 := hx.held 1 _ rfl (by kernel_rfl)
      have e48 := hx.held 2 _ rfl (by kernel_rfl)
      change ev (.tmp 47) = _ at e47
      change ev (.tmp 48) = _ at e48
      have HK := Lib.hid hK
      have HC := Lib.hid hC
      have HL := Lib.hid hL
      have HX := Lib.hid hx
      have hc := hx.cst
      skip
      clear hx hK hC hL
      unfold Run
      simp [execOp, Upon, go_sem, *]
      exact HK.out _ _ (.inl ⟨Below.refl _ _, by decide⟩) rfl
    · intro L ev w' hC hL hx K hK
      have e46 := hx.held 0 _ rfl (by kernel_rfl)
      have e49 := hx.held 3 _ rfl (by kernel_rfl)
      change ev (.tmp 46) = _ at e46
      change ev (.tmp 49) = _ at e49
      have HK := Lib.hid hK
      have HC := Lib.hid hC
      have HL := Lib.hid hL
      have HX := Lib.hid hx
      have hc := hx.cst
      skip
      clear hx hK hC hL
      have q46 : ev (.tmp 46) = .slice (some ⟨N, 0, none⟩) (q + 1) Cp := e46
      have hrun : (Instr.slice 25 (.slice (some ⟨N, 0, none⟩) (q + 1) Cp) (some (ev (.tmp 49))) none none).run Try.prog w' = .ok (.slice (some ⟨N, (i + 1) * 2, none⟩) (q - i) (Cp - (i + 1))) w' := by
        rw [e49]
        rw [show (i : Int) + 1 = ((i + 1 : Nat) : Int) from by omega]
        have := run_slice_l (P := Try.prog) 25 53 2 Try.underlying25 (by kernel_rfl) (some ⟨N, 0, none⟩) (q + 1) Cp (i + 1) (by omega) w'
        rw [if_neg (by omega), Option.map_some, Addr.add_mid, Nat.zero_add, show q + 1 - (i + 1) = q - i from by omega] at this
        exact this
      unfold Run
      rw [run_sliceE 25 _ (some _) none rfl Try.underlying25 q46 hrun]
      exact HK.out _ _ (.inl ⟨Below.refl _ _, by decide⟩) rfl
    · intro L ev w' hC hL hx K hK
      have e0 : ev (.tmp 0) = _ := hx.base 0 (by kernel_rfl)
      have HK := Lib.hid hK
      have HC := Lib.hid hC
      have HL := Lib.hid hL
      have HX := Lib.hid hx
      have hc := hx.cst
      skip
      clear hx hK hC hL
      unfold Run
      simp [execOp, Upon, go_sem, *]
      exact HK.out _ _ (.inl ⟨Below.refl _ _, by decide⟩) rfl
    · intro L ev w' hC hL hx K hK
      have e1 : ev (.tmp 1) = _ := hx.base 1 (by kernel_rfl)
      have HK := Lib.hid hK
      have HC := Lib.hid hC
      have HL := Lib.hid hL
      have HX := Lib.hid hx
      have hc := hx.cst
      skip
      clear hx hK hC hL
      unfold Run
      simp [execOp, Upon, go_sem, *]
      exact HK.out _ _ (.inl ⟨Below.refl _ _, by decide⟩) rfl
    · intro L ev w' hC hL hx K hK
      have e51 := hx.held 5 _ rfl (by kernel_rfl)
      have e52 := hx.held 6 _ rfl (by kernel_rfl)
      change ev (.tmp 51) = _ at e51
      change ev (.tmp 52) = _ at e52
      have HK := Lib.hid hK
      have HC := Lib.hid hC
      have HL := Lib.hid hL
      have HX := Lib.hid hx
      have hc := hx.cst
      skip
      clear hx hK hC hL
      have q51 : ev (.tmp 51) = .slice (some ⟨g, 0, none⟩) q q := e51
      have hrun : (Instr.slice 25 (.slice (some ⟨g, 0, none⟩) q q) (some (ev (.tmp 52))) none none).run Try.prog w' = .ok (.slice (some ⟨g, i * 2, none⟩) (q - i) (q - i)) w' := by
        rw [e52]
        have := run_slice_l (P := Try.prog) 25 53 2 Try.underlying25 (by kernel_rfl) (some ⟨g, 0, none⟩) q q i (by omega) w'
        rw [if_neg (by omega), Option.map_some, Addr.add_mid, Nat.zero_add] at this
        exact this
      unfold Run
      rw [run_sliceE 25 _ (some _) none rfl Try.underlying25 q51 hrun]
      exact HK.out _ _ (.inl ⟨Below.refl _ _, by decide⟩) rfl
    · intro L ev w' hC hL hx K hK
      have e50 := hx.held 4 _ rfl (by kernel_rfl)
      have e53 := hx.held 7 _ rfl (by kernel_rfl)
      change ev (.tmp 50) = _ at e50
      change ev (.tmp 53) = _ at e53
      have HK := Lib.hid hK
      have HC := Lib.hid hC
      have HL := Lib.hid hL
      have HX := Lib.hid hx
      have hc := hx.cst
      skip
      clear hx hK hC hL
      have hC := HC.out
      rw [HL.out] at hC
      obtain ⟨hC1, hC2⟩ := hC
      have hrun := HCP.out w' hC2 hC1.block
      have q50 : ev (.tmp 50) = .slice (some ⟨N, (i + 1) * 2, none⟩) (q - i) (Cp - (i + 1)) := e50
      have q53 : ev (.tmp 53) = .slice (some ⟨g, i * 2, none⟩) (q - i) (q - i) := e53
      have HC1 := Lib.hid hC1
      have HC2 := Lib.hid hC2
      clear hC1 hC2
      unfold Run
      rw [run_copyE _ _ 25 25 rfl q50 q53 hrun]
      refine HK.out _ _ (.inr ⟨⟨below_setRow HC1.out (Nat.le_of_eq HN.out) _, setRow_heap _ _ _ _ _ _ HC2.out⟩, fun j hj hlj u hr => rl_sg (S := fun _ _ => True) (ex := []) 0 (by exact ⟨.inr (is_sg _ _), .inr (is_sg _ _), .inr (is_sg _ _), .inr (is_sg _ _), .inr (is_sg _ _), .inr (is_sg _ _), .inr (is_sg _ _), .inr (is_sg _ _), .inr (fun _ _ _ _ _ => trivial), trivial⟩) j u _ _ rfl trivial hr⟩) trivial
  · exact rl_mono ⟨is_mono _, is_mono _, is_mono _, is_mono _, is_mono _, is_mono _, is_mono _, is_mono _, any_mono, trivial⟩
  · exact fun L L' w1 he h => ⟨h.1, by rw [← he 8 (by simp)]; exact h.2⟩
  · exact fun L w1 w2 hb h => ⟨h.1.trans (hb.mono h.1.size), (hb.block _ (row_lt h.2)).trans h.2⟩
  · exact ⟨HB2.out, HG2.out⟩
  · simp
  intro us wr hG hH
  obtain ⟨-, -, -, -, -, -, -, -, -, -⟩ := hH
  simp only [fillM]
  generalize us 46 = v46
  generalize us 47 = v47
  generalize us 48 = v48
  generalize us 49 = v49
  generalize us 50 = v50
  generalize us 51 = v51
  generalize us 52 = v52
  generalize us 53 = v53
  generalize us 54 = v54
  clear hw1
  obtain ⟨g1, g2⟩ := hG
  have HGB := Lib.hid g1
  have HG3 : Hid (wr.heap[N]? = some (.cells row3 53 (0, 0))) := g2
  clear g1 g2
  go_wp2
  go_ret
  refine ⟨_, rfl, ⟨?_, .inr ⟨N, Cp, row3, rfl, by rw [← HN.out]; exact HLL.out, HG3.out, hCn, HCM.out, HC3.out.1, HC3.out.2⟩⟩, ⟨HGB.out.os, HGB.out.tape, HGB.out.output, HGB.out.size, fun k hk _ => HGB.out.block k hk⟩⟩
  rw [List.length_append, List.length_append, List.length_take, List.length_drop, HXL.out]
  simp only [Array.length_toList, hC9]
  omega
/-- every place, every room -/
theorem inW_any (v : Value) (q i lo kb : Nat) (C : Array Value) (xs : List Value) (w : World) (hC9 : C.size = 2) (hC1 : ∀ u ∈ C.toList, u.oneCell' = true) (hown : w.ownsRow lo 53 2 v q xs) (h1 : ∀ u ∈ xs, u.oneCell' = true) (hkb : w.heap[kb]? = some (.cells C 53 (0, 0))) (hne : ∀ g, v.ownBlock = some g → kb ≠ g) (hq : q ≤ 100000) (hi : i ≤ q) (hll : lo ≤ w.heap.size) :
    Calls Try.prog 20 #[v, .int .i64 (i : Int), .slice (some ⟨kb, 0, none⟩) 1 1] w (InsPost 53 2 w lo v (q + 1) (xs.take (i * 2) ++ C.toList ++ xs.drop (i * 2))) := by
  by_cases hlt : i < q
  · obtain ⟨g, c, cur, rfl, -, -, hqc, -, -, -⟩ := ownk_some hown (by omega)
    by_cases hc : q + 1 ≤ c
    · exact inW_room g q c i lo kb C hC9 hC1 _ w hown h1 hkb (hne g rfl) hq hlt hc
    · obtain rfl : c = q := by omega
      exact inW_grow g c i lo kb C hC9 hC1 _ w hown h1 hkb hq hlt hll
  · obtain rfl : i = q := by omega
    obtain ⟨A, c, rfl, _⟩ := ownk_form hown
    have hxl := hown.1
    rw [List.take_of_length_le (by rw [hxl]; exact Nat.le_refl _), List.drop_of_length_le (by rw [hxl]; exact Nat.le_refl _), List.append_nil]
    exact inW_end A i c lo kb C hC9 hC1 _ w hown hkb hq hll
end Go.Proofs.Ytljochpomgjjeaa
