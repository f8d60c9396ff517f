/-
  slices.Delete of one row. Every row. No condition.
-/
import Derived.Test.YtljochpomgjjeaaClW
namespace Go.Proofs.Ytljochpomgjjeaa
open Go.RowKit

def zeroLW : List Value := zeroW.toList
theorem clearW (w : World) (g o c : Nat) (ty : TypeId) (cur : Array Value) (hg : w.heap[g]? = some (.cells cur 53 (0, 0))) (hf : o + 2 ≤ cur.size) :
    (Builtin.clear_ #[25] ty #[.slice (some ⟨g, o, none⟩) 1 c]).run Try.prog w = .ok (.tuple #[]) (w.setRow g (cur.toList.take o ++ zeroLW ++ cur.toList.drop (o + 2)).toArray) := by
  have hv : ∀ w, (zeroValue 53).run Try.prog w = .ok (.agg zeroW) w := fun w => by kernel_rfl
  have hst := run_storeCells_at (P := Try.prog) g o 53 zeroLW 0 cur w hg (by show o + 0 + 2 ≤ cur.size; omega) (fun v hv => by exact Array.all_eq_true_iff_forall_mem.1 zeroW_one v (by simpa [zeroLW] using hv))
  have hzc : (Builtin.zeroCells (Value.agg zeroW).cells 1).toList = zeroLW := by kernel_rfl
  rw [Nat.add_zero] at hst
  have hzs : zeroLW.length = 2 := rfl
  simp [Builtin.clear_, run_underlying Try.underlying25, hv, hzc, hst, hzs]

set_option maxRecDepth 100000 in
set_option maxHeartbeats 4000000 in
theorem dlW_any (g q c i lo : Nat) (xs : List Value) (w : World) (hown : w.ownsRow lo 53 2 (.slice (some ⟨g, 0, none⟩) (q + 1) c) (q + 1) xs) (h1 : ∀ u ∈ xs, u.oneCell' = true) (hi : i ≤ q) (hq : q ≤ 100000) :
    Calls Try.prog 24 #[.slice (some ⟨g, 0, none⟩) (q + 1) c, .int .i64 (i : Int), .int .i64 ((i : Int) + 1)] w fun e w' => e = .returned (.slice (some ⟨g, 0, none⟩) q c) ∧ w'.ownsRow lo 53 2 (.slice (some ⟨g, 0, none⟩) q c) q (xs.take (i * 2) ++ xs.drop (i * 2 + 2)) ∧ w.grownBy w' (some g) := by
  obtain ⟨g', cap, cur, hv, hlo, hg, hqc, hcm, hcs, htk⟩ := ownk_some hown (by omega)
  injection hv with hv1 _ hv3
  injection hv1 with hv1
  injection hv1 with hv1
  subst hv1 hv3
  obtain ⟨i0, hi0, hz0, hz1, hz2⟩ := parts_of info_W
  have hxl := hown.1
  obtain ⟨A2, hA2⟩ : ∃ A2, (if c = i + 1 then some (⟨g, 0, none⟩ : Addr) else (some (⟨g, 0, none⟩ : Addr)).map (·.add ((i + 1) * 2))) = A2 := ⟨_, rfl⟩
  have HA2 := Lib.hid hA2
  obtain ⟨news, hnews⟩ : ∃ news, xs.drop ((i + 1) * 2) = news := ⟨_, rfl⟩
  have hnl : news.length = (q - i) * 2 := by rw [← hnews, List.length_drop, hxl, ← Nat.sub_mul]; congr 1; omega
  obtain ⟨cur2, hcur2⟩ : ∃ cur2 : Array Value, (cur.toList.take (i * 2) ++ news ++ cur.toList.drop (i * 2 + news.length)).toArray = cur2 := ⟨_, rfl⟩
  have HAP : Hid (∀ w' : World, w'.heap[g]? = some (.cells cur 53 (0, 0)) → (Builtin.append_ #[25, 25] 25 #[.slice (some ⟨g, 0, none⟩) i c, .slice A2 (q - i) (c - (i + 1))]).run Try.prog w' = .ok (.slice (some ⟨g, 0, none⟩) q c) (w'.setRow g cur2)) := fun w' hg' => by
    obtain ⟨a, ha, hca⟩ : ∃ a : Addr, A2 = some a ∧ ∀ j u, news[j]? = some u → w'.cell? (a.add j) = some u := by
      rw [← hA2]
      by_cases hc : c = i + 1
      · refine ⟨⟨g, 0, none⟩, by rw [if_pos hc], fun j u hu => ?_⟩
        have := (List.getElem?_eq_some_iff.1 hu).1
        have hqi : q - i = 0 := by omega
        rw [hqi, Nat.zero_mul] at hnl
        omega
      · refine ⟨⟨g, (i + 1) * 2, none⟩, by rw [if_neg hc, Option.map_some, Addr.add_mid, Nat.zero_add], fun j u hu => ?_⟩
        rw [Addr.add_mid, cell_of_row _ _ _ _ _ _ hg', ← Array.getElem?_toList]
        rw [← hnews, List.getElem?_drop, ← htk, List.getElem?_take] at hu
        split at hu
        · exact hu
        · cases hu
    rw [ha]
    have := run_append_room (P := Try.prog) w' 25 25 53 i0 Try.underlying25 hi0 g i c cur hg' a (q - i) (c - (i + 1)) news (by rw [hz1]; exact hnl) hca
      (fun u hu => h1 u (by rw [← hnews] at hu; exact List.mem_of_mem_drop hu)) (by omega) (by rw [hz1, hnl, hcs]; have := Nat.mul_le_mul_right 2 (show i + (q - i) ≤ c by omega); rw [Nat.add_mul] at this; exact this)
    rw [hz1, show i + (q - i) = q from by omega, hcur2] at this
    exact this
  have HG := Lib.hid hg
  have HCS := Lib.hid hcs
  have HTK := Lib.hid htk
  have hqc2 : q + 1 ≤ c := hqc
  have hcm2 : c ≤ 9223372036854775807 := by unfold maxLen at hcm; omega
  have HC2 := Lib.hid hcur2
  have HLO := Lib.hid hlo
  have HNL := Lib.hid hnl
  have HNW := Lib.hid hnews
  have HXL := Lib.hid hxl
  clear hnl hi0 hz0 hz1 hz2 hg hcs htk hA2 hnews hcur2 hown h1 hxl hlo hcm
  go_enter Try.func24, Try.ntmps24
  go_wp2_with fail
  apply wp_region_relyG [6] (fun L w' => w.grownBy w' (some g) ∧ w'.heap[g]? = some (.cells (if L 6 then cur2 else cur) 53 (0, 0))) (RL [Is _, Is _, Is (.slice (some ⟨g, 0, none⟩) i c), Is _, Is _, Is (.slice A2 (q - i) (c - (i + 1))), Is (.slice (some ⟨g, 0, none⟩) q c), Is (.slice (some ⟨g, 0, none⟩) q c)]) [true, false, false, false, false, false, false, false, false, false, false, false, false, false, false, false, false, false, false, false, true, true, true, true, true, true, true, false, false, false, false, false, false]
  · kernel_rfl
  · kernel_rfl
  · kernel_rfl
  · refine ⟨?_, ?_, ?_, ?_, ?_, ?_, ?_, ?_, trivial⟩
    · intro L ev w' hC hL hx K hK
      have e0 : ev (.tmp 0) = _ := hx.old 7 _ 0 rfl rfl (Bool.eq_false_iff.2 fun h => by have h1 := hx.closed 7 _ 6 rfl h (by kernel_rfl); have h3 := hx.closed 6 _ 2 rfl h1 (by kernel_rfl); have h2 := hx.closed 2 _ 0 rfl h3 (by kernel_rfl); rw [hL] at h2; cases h2)
      have HK := Lib.hid hK
      have HC := Lib.hid hC
      have HL := Lib.hid hL
      have HX := Lib.hid hx
      have hc := hx.cst
      skip
      clear hx hK hC hL
      unfold Run
      simp [execOp, Upon, go_sem, *]
      exact HK.out _ _ (.inl ⟨Below.refl _ _, by decide⟩) rfl
    · intro L ev w' hC hL hx K hK
      have e1 : ev (.tmp 1) = _ := hx.base 1 (by kernel_rfl)
      have HK := Lib.hid hK
      have HC := Lib.hid hC
      have HL := Lib.hid hL
      have HX := Lib.hid hx
      have hc := hx.cst
      skip
      clear hx hK hC hL
      unfold Run
      simp [execOp, Upon, go_sem, *]
      exact HK.out _ _ (.inl ⟨Below.refl _ _, by decide⟩) rfl
    · intro L ev w' hC hL hx K hK
      have e20 := hx.held 0 _ rfl (by kernel_rfl)
      have e21 := hx.held 1 _ rfl (by kernel_rfl)
      change ev (.tmp 20) = _ at e20
      change ev (.tmp 21) = _ at e21
      have HK := Lib.hid hK
      have HC := Lib.hid hC
      have HL := Lib.hid hL
      have HX := Lib.hid hx
      have hc := hx.cst
      skip
      clear hx hK hC hL
      have q20 : ev (.tmp 20) = .slice (some ⟨g, 0, none⟩) (q + 1) c := e20
      have hrun : (Instr.slice 25 (.slice (some ⟨g, 0, none⟩) (q + 1) c) none (some (ev (.tmp 21))) none).run Try.prog w' = .ok (.slice (some ⟨g, 0, none⟩) i c) w' := by
        rw [e21]
        have := run_slice_h (P := Try.prog) 25 53 2 Try.underlying25 (by kernel_rfl) (some ⟨g, 0, none⟩) (q + 1) c i (by omega) w'
        rw [if_neg (by omega)] at this
        exact this
      unfold Run
      rw [run_sliceE 25 _ none (some _) rfl Try.underlying25 q20 hrun]
      exact HK.out _ _ (.inl ⟨Below.refl _ _, by decide⟩) rfl
    · intro L ev w' hC hL hx K hK
      have e0 : ev (.tmp 0) = _ := hx.old 7 _ 0 rfl rfl (Bool.eq_false_iff.2 fun h => by have h1 := hx.closed 7 _ 6 rfl h (by kernel_rfl); have h3 := hx.closed 6 _ 5 rfl h1 (by kernel_rfl); have h2 := hx.closed 5 _ 3 rfl h3 (by kernel_rfl); rw [hL] at h2; cases h2)
      have HK := Lib.hid hK
      have HC := Lib.hid hC
      have HL := Lib.hid hL
      have HX := Lib.hid hx
      have hc := hx.cst
      skip
      clear hx hK hC hL
      unfold Run
      simp [execOp, Upon, go_sem, *]
      exact HK.out _ _ (.inl ⟨Below.refl _ _, by decide⟩) rfl
    · intro L ev w' hC hL hx K hK
      have e2 : ev (.tmp 2) = _ := hx.base 2 (by kernel_rfl)
      have HK := Lib.hid hK
      have HC := Lib.hid hC
      have HL := Lib.hid hL
      have HX := Lib.hid hx
      have hc := hx.cst
      skip
      clear hx hK hC hL
      unfold Run
      simp [execOp, Upon, go_sem, *]
      exact HK.out _ _ (.inl ⟨Below.refl _ _, by decide⟩) rfl
    · intro L ev w' hC hL hx K hK
      have e23 := hx.held 3 _ rfl (by kernel_rfl)
      have e24 := hx.held 4 _ rfl (by kernel_rfl)
      change ev (.tmp 23) = _ at e23
      change ev (.tmp 24) = _ at e24
      have HK := Lib.hid hK
      have HC := Lib.hid hC
      have HL := Lib.hid hL
      have HX := Lib.hid hx
      have hc := hx.cst
      skip
      clear hx hK hC hL
      have q23 : ev (.tmp 23) = .slice (some ⟨g, 0, none⟩) (q + 1) c := e23
      have hrun : (Instr.slice 25 (.slice (some ⟨g, 0, none⟩) (q + 1) c) (some (ev (.tmp 24))) none none).run Try.prog w' = .ok (.slice A2 (q - i) (c - (i + 1))) w' := by
        rw [e24]
        have := run_slice_l (P := Try.prog) 25 53 2 Try.underlying25 (by kernel_rfl) (some ⟨g, 0, none⟩) (q + 1) c (i + 1) (by omega) w'
        rw [HA2.out, show q + 1 - (i + 1) = q - i from by omega] at this
        exact this
      unfold Run
      rw [run_sliceE 25 _ (some _) none rfl Try.underlying25 q23 hrun]
      exact HK.out _ _ (.inl ⟨Below.refl _ _, by decide⟩) rfl
    · intro L ev w' hC hL hx K hK
      have e22 := hx.held 2 _ rfl (by kernel_rfl)
      have e25 := hx.held 5 _ rfl (by kernel_rfl)
      change ev (.tmp 22) = _ at e22
      change ev (.tmp 25) = _ at e25
      have HK := Lib.hid hK
      have HC := Lib.hid hC
      have HL := Lib.hid hL
      have HX := Lib.hid hx
      have hc := hx.cst
      skip
      clear hx hK hC hL
      have hC := HC.out
      rw [HL.out] at hC
      obtain ⟨hC1, hC2⟩ := hC
      have hrun := HAP.out w' hC2
      have q22 : ev (.tmp 22) = .slice (some ⟨g, 0, none⟩) i c := e22
      have q25 : ev (.tmp 25) = .slice A2 (q - i) (c - (i + 1)) := e25
      have HC1 := Lib.hid hC1
      have HC2 := Lib.hid hC2
      clear hC1 hC2
      unfold Run
      rw [run_appendE _ _ 25 rfl q22 q25 hrun]
      refine HK.out _ _ (.inr ⟨⟨grown_setRow HC1.out _, setRow_heap _ _ _ _ _ _ HC2.out⟩, fun j hj hlj u hr => rl_sg (S := fun _ _ => True) (ex := []) 0 (by exact ⟨.inr (is_sg _ _), .inr (is_sg _ _), .inr (is_sg _ _), .inr (is_sg _ _), .inr (is_sg _ _), .inr (is_sg _ _), .inr (is_sg _ _), .inr (is_sg _ _), trivial⟩) j u _ _ rfl trivial hr⟩) rfl
    · intro L ev w' hC hL hx K hK
      have e26 := hx.held 6 _ rfl (by kernel_rfl)
      change ev (.tmp 26) = _ at e26
      have HK := Lib.hid hK
      have HC := Lib.hid hC
      have HL := Lib.hid hL
      have HX := Lib.hid hx
      have hc := hx.cst
      skip
      clear hx hK hC hL
      unfold Run
      simp [execOp, Upon, go_sem, *]
      exact HK.out _ _ (.inl ⟨Below.refl _ _, by decide⟩) rfl
  · exact rl_mono ⟨is_mono _, is_mono _, is_mono _, is_mono _, is_mono _, is_mono _, is_mono _, is_mono _, trivial⟩
  · exact fun L L' w1 he h => ⟨h.1, by rw [← he 6 (by simp)]; exact h.2⟩
  · exact fun L w1 w2 hb h => ⟨grown_below h.1 hb, (hb.block _ (row_lt h.2)).trans h.2⟩
  · exact ⟨World.grownBy.refl _ _, HG.out⟩
  · simp
  intro us wr hG hH
  obtain ⟨-, -, -, -, -, -, -, h7, -⟩ := hH
  simp only [fillM]
  change us 0 = _ at h7
  rw [h7]
  clear h7
  generalize us 20 = v20
  generalize us 21 = v21
  generalize us 22 = v22
  generalize us 23 = v23
  generalize us 24 = v24
  generalize us 25 = v25
  generalize us 26 = v26
  obtain ⟨g1, g2⟩ := hG
  have HG1 := Lib.hid g1
  have HG2 : Hid (wr.heap[g]? = some (.cells cur2 53 (0, 0))) := g2
  clear g1 g2
  have hl2 : cur2.toList.take (q * 2) = xs.take (i * 2) ++ xs.drop (i * 2 + 2) := by
    have e1 : cur.toList.take (i * 2) = xs.take (i * 2) := by rw [← HTK.out, List.take_take, Nat.min_eq_left (by omega)]
    have e2 : (cur.toList.take (i * 2)).length = i * 2 := by rw [e1, List.length_take, HXL.out]; omega
    rw [← HC2.out]
    show (cur.toList.take (i * 2) ++ news ++ _).take (q * 2) = _
    rw [List.take_left' (by rw [List.length_append, e2, HNL.out, ← Nat.add_mul]; congr 1; omega), e1, ← HNW.out]
    congr 2
    omega
  have hs2 : cur2.size = c * 2 := by
    rw [← HC2.out, List.size_toArray, List.length_append, List.length_append, List.length_take, List.length_drop, Array.length_toList, HCS.out, HNL.out]
    omega
  have hclr := clearW wr g (q * 2) (c - q) 0 cur2 HG2.out (by rw [hs2]; omega)
  obtain ⟨cur3, hcur3⟩ : ∃ cur3 : Array Value, (cur2.toList.take (q * 2) ++ zeroLW ++ cur2.toList.drop (q * 2 + 2)).toArray = cur3 := ⟨_, rfl⟩
  rw [hcur3] at hclr
  have HT3 : Hid (cur3.toList.take (q * 2) = xs.take (i * 2) ++ xs.drop (i * 2 + 2)) := by
    rw [← hcur3]
    show (cur2.toList.take (q * 2) ++ zeroLW ++ _).take (q * 2) = _
    rw [List.append_assoc, List.take_left' (by rw [List.length_take, Array.length_toList, hs2]; omega)]
    exact hl2
  have HS3 : Hid (cur3.size = c * 2) := by
    show _ = _
    rw [← hcur3, List.size_toArray, List.length_append, List.length_append, List.length_take, List.length_drop, Array.length_toList, hs2]
    have hzl : zeroLW.length = 2 := rfl
    rw [hzl]
    omega
  have HW3 := Lib.hid (setRow_heap wr g cur2 cur3 _ _ HG2.out)
  have HG3 := Lib.hid (grown_setRow HG1.out cur3)
  have HIQ := Lib.hid hi
  clear hl2 hs2 hcur3
  go_wp2
  go_ret
  refine ⟨rfl, ⟨?_, .inr ⟨g, c, cur3, rfl, HLO.out, HW3.out, by omega, by unfold maxLen; omega, HS3.out, HT3.out⟩⟩, HG3.out⟩
  rw [List.length_append, List.length_take, List.length_drop, HXL.out]
  have := HIQ.out
  omega
end Go.Proofs.Ytljochpomgjjeaa
