/-
  The code's route.Add. Every right slice of routes, every route.
-/
import Derived.Test.YtfifigokglmjlaaRok
import Derived.Test.YtfifigokglmjlaaRoi
import Derived.Test.YtfifigokglmjlaaInR
namespace Go.Proofs.Ytfifigokglmjlaa
open Go.RowKit

theorem while_mem {α : Type} {p q : α → Bool} : ∀ {K : List α}, (∀ x ∈ K, p x = q x) → K.takeWhile p = K.takeWhile q ∧ K.dropWhile p = K.dropWhile q
  | [], _ => ⟨rfl, rfl⟩
  | y :: K, h => by
    have hy := h y (List.mem_cons_self ..)
    have ih := while_mem (K := K) fun x hx => h x (List.mem_cons_of_mem _ hx)
    rw [List.takeWhile_cons, List.takeWhile_cons, List.dropWhile_cons, List.dropWhile_cons, hy, ih.1, ih.2]
    exact ⟨rfl, rfl⟩
theorem while_cut {α : Type} (p : α → Bool) (K : List α) : K.takeWhile p = K.take (K.takeWhile p).length ∧ K.dropWhile p = K.drop (K.takeWhile p).length := by
  have h := List.takeWhile_append_dropWhile (p := p) (l := K)
  have h1 : List.take (K.takeWhile p).length (K.takeWhile p ++ K.dropWhile p) = K.takeWhile p := List.take_left' rfl
  have h2 : List.drop (K.takeWhile p).length (K.takeWhile p ++ K.dropWhile p) = K.dropWhile p := List.drop_left' rfl
  rw [h] at h1 h2
  exact ⟨h1.symm, h2.symm⟩
theorem ins_bef {m : Ro} {K : List Ro} (hno : K.any (isR m.net m.bits) = false) : insX m K = K.take (befX K m) ++ m :: K.drop (befX K m) := by
  have he : ∀ x ∈ K, (!firstX m x) = firstX x m := fun x hx => by
    have hi := List.any_eq_false.1 hno x hx
    cases hf : firstX m x
    · exact (first_total hf (by simpa using hi)).symm
    · rw [first_asym hf]
      rfl
  obtain ⟨h1, h2⟩ := while_mem he
  obtain ⟨h3, h4⟩ := while_cut (fun q => firstX q m) K
  unfold insX befX
  rw [h1, h2, ← h3, ← h4]
theorem bef_le (K : List Ro) (m : Ro) : befX K m ≤ K.length := by
  unfold befX
  have := congrArg List.length (List.takeWhile_append_dropWhile (p := fun q => firstX q m) (l := K))
  rw [List.length_append] at this
  omega
theorem any_none {K : List Ro} {p : Ro → Bool} (h : K.findIdx? p = none) : K.any p = false := by
  rw [List.any_eq_false]
  intro x hx
  rw [List.findIdx?_eq_none_iff.1 h x hx]
  simp
theorem any_some {K : List Ro} {p : Ro → Bool} {i : Nat} (h : K.findIdx? p = some i) : K.any p = true := by
  obtain ⟨hi, hp, _⟩ := List.findIdx?_eq_some_iff_getElem.1 h
  exact List.any_eq_true.2 ⟨K[i], List.getElem_mem hi, hp⟩
theorem mask_put (r : Ro) (m : Ip) : ((roA r).toList.take 0 ++ (ipA m).toList ++ (roA r).toList.drop (0 + (ipA m).size)).toArray = roA { r with net := m } := by
  obtain ⟨⟨x0, x1, x2, x3⟩, p, ⟨y0, y1, y2, y3⟩⟩ := r
  obtain ⟨z0, z1, z2, z3⟩ := m
  rfl
theorem rows_ins {α : Type} {f : α → Array Value} {k : Nat} (E : El f k) (K : List α) (i : Nat) (a : α) : (rowsOf f K).take (i * k) ++ (f a).toList ++ (rowsOf f K).drop (i * k) = rowsOf f (K.take i ++ a :: K.drop i) := by
  rw [rows_append, rows_cons, rows_take E, ← rows_drop E, List.append_assoc]
set_option maxRecDepth 100000 in
set_option maxHeartbeats 4000000 in
theorem add_any (v : Value) (K : List Ro) (r : Ro) (w : World) (hv : RoT w v K) (hK : rightX K = true) (_hr : I64 r.bits) :
    Calls Try.prog 11 #[v, .agg (roA r)] w fun e w' => ∃ v', e = .returned (.tuple #[v', .int .i64 (addX K r).2]) ∧ RoT w' v' (addX K r).1 ∧ Below w.heap.size w w' := by
  have hl8 := right_len hK
  obtain ⟨A, c, rfl, htr, hA, hnc, hcm⟩ := hv
  obtain ⟨n, hnn⟩ : ∃ n, K.length = n := ⟨_, rfl⟩
  obtain ⟨w1, hw1⟩ : ∃ w1, w.alloc (.cells (roA r) 28) = w1 := ⟨_, rfl⟩
  have HB1 : Hid (Below w.heap.size w w1) := by rw [← hw1]; exact (Below.refl _ _).alloc (Nat.le_refl _) _
  have HX0 : Hid (w1.heap[w.heap.size]? = some (.cells (roA r) 28 (0, 0))) := by rw [← hw1]; exact heap_alloc_new w _
  have HW := Lib.hid hw1
  have HCL := Lib.hid (clR_any A (rowsOf roA K) n c 0 w1.heap.size w1 (htr.below HB1.out (Nat.le_refl _)).rd (Nat.le_refl _) (by rw [rows_length roE, hnn]) (rows_ones roE K) hA (by omega))
  have HN := Lib.hid hnn
  rw [hnn] at hl8 hnc ⊢
  obtain ⟨L0, hL⟩ : ∃ L0, w1.heap.size = L0 := ⟨_, rfl⟩
  obtain ⟨B0, hB0⟩ : ∃ B0, w.heap.size = B0 := ⟨_, rfl⟩
  have hLB : L0 = B0 + 1 := by rw [← hL, ← hw1, ← hB0]; simp
  have HLL := Lib.hid hL
  have HBB := Lib.hid hB0
  rw [hL] at HCL
  rw [hB0] at HX0
  clear hnn htr hcm hA hw1 hL
  clear hB0
  by_cases hmy : 0 ≤ r.bits ∧ r.bits ≤ 32
  · obtain ⟨h0, h32⟩ := hmy
    obtain ⟨b, hb⟩ : ∃ b : Nat, r.bits = (b : Int) := Int.eq_ofNat_of_zero_le h0
    have HMY : Hid (∀ w, Calls Try.prog 21 #[.int .i64 r.bits] w fun e w' => e = .returned (.bool true) ∧ w = w') := fun w => by have := may_any r.bits w; rwa [show mayX r.bits = true from decide_eq_true ⟨h0, h32⟩] at this
    have HMK : Hid (∀ w, Calls Try.prog 22 #[.agg (ipA r.net), .int .i64 (b : Int)] w fun e w' => e = .returned (.agg (ipA (maskX r.net b))) ∧ Below w.heap.size w w') := fun w => bare_any r.net b w (by omega)
    have HM : Hid (maskR r = { r with net := maskX r.net b }) := by show _ = _; unfold maskR; rw [hb]; rfl
    have HRB := Lib.hid hb
    have hb32 : b ≤ 32 := by omega
    go_enter Try.func11, Try.ntmps11
    go_upto_region 1 with (fail)
    change Code.wp _ _ _ _ (w.alloc (.cells (roA r) 28))
    rw [HW.out, HBB.out]
    clear HW
    go_wp2_with fail
    refine HCL.out.mono ?_
    rintro e w2 ⟨v2, rfl, ho, hb2⟩
    have HO2 := Lib.hid ho
    have HX2 := Lib.hid (old_below HX0.out hb2 (by omega))
    have HB2 : Hid (Below w.heap.size w w2) := HB1.out.trans (hb2.mono (by rw [← HLL.out]; exact HB1.out.size))
    have HS2 : Hid (L0 ≤ w2.heap.size) := by show _ ≤ _; rw [← HLL.out]; exact hb2.size
    clear ho hb2 HCL HB1 HX0
    have c4 : w2.cell? ⟨B0, 4, none⟩ = some (.int .i64 r.bits) := (cell_of_row _ _ _ _ _ _ HX2.out).trans (roA_bits r)
    rw [hb] at HMY c4
    clear h0 h32 hb
    go_wp2_with fail
    refine (HMY.out w2).mono ?_
    rintro e w3 ⟨rfl, rfl⟩
    have KA := var_all HX2.out
    have HAN : Hid (∀ (j : Nat) v, (ipA r.net)[j]? = some v → w2.cell? ((⟨B0, 0, none⟩ : Addr).add j) = some v) := fun j v hv => KA w2 (Below.refl _ _) j v (roA_net r j v hv)
    clear KA HMY
    go_wp2_with (refine wpList_load_atA rfl 26 _ rfl ⟨B0, 0, none⟩ rfl (ipA r.net) _ HAN.out Try.underlying26 rfl (by rw [ipE.size]; kernel_rfl) ?_)
    refine (HMK.out w2).mono ?_
    rintro e w4 ⟨rfl, hb4⟩
    have HX4 := Lib.hid (old_below HX2.out hb4 (row_lt HX2.out))
    have HB4 := Lib.hid (HB2.out.trans (hb4.mono HB2.out.size))
    have HO4 := Lib.hid (ownk_below HO2.out hb4 (Nat.le_refl _))
    have HS4 : Hid (L0 ≤ w4.heap.size) := Nat.le_trans HS2.out hb4.size
    clear hb4 HMK HAN c4 HX2 HB2 HO2 HS2
    obtain ⟨m, hm⟩ : ∃ m : Ro, { r with net := maskX r.net b } = m := ⟨_, rfl⟩
    have HMC : Hid (((roA r).toList.take 0 ++ (ipA (maskX r.net b)).toList ++ (roA r).toList.drop (0 + (ipA (maskX r.net b)).size)).toArray = roA m) := by rw [← hm]; exact mask_put r _
    have HMN : Hid (m.net = maskX r.net b) := by show _ = _; rw [← hm]
    have HMB : Hid (m.bits = (b : Int)) := by show _ = _; rw [← hm]; exact HRB.out
    have HMR : Hid (maskR r = m) := HM.out.trans hm
    have HZ4 : Hid (0 + (ipA (maskX r.net b)).size ≤ (roA r).size) := by show _ ≤ _; rw [ipE.size, roE.size]; omega
    obtain ⟨w5, hw5⟩ : ∃ w5, w4.setRow B0 (roA m) = w5 := ⟨_, rfl⟩
    have HX5 : Hid (w5.heap[B0]? = some (.cells (roA m) 28 (0, 0))) := by rw [← hw5]; exact setRow_heap _ _ _ _ _ _ HX4.out
    have HB5 : Hid (Below w.heap.size w w5) := by rw [← hw5]; exact below_setRow HB4.out (Nat.le_of_eq HBB.out) _
    have HO5 : Hid (w5.ownsRow L0 28 9 v2 n (rowsOf roA K)) := by rw [← hw5]; exact ownr_other (N := B0) (by omega) _ _ _ (setRow_cells w4 B0 _) HO4.out
    have HS5 : Hid (L0 ≤ w5.heap.size) := by rw [← hw5]; show _ ≤ _; rw [setRow_size]; exact HS4.out
    have HW5 := Lib.hid hw5
    have c4 : w5.cell? ⟨B0, 4, none⟩ = some (.int .i64 (b : Int)) := by
      have := (cell_of_row _ _ 4 _ _ _ HX5.out).trans (roA_bits m)
      rwa [HMB.out] at this
    have KA := var_all HX5.out
    have HAN : Hid (∀ (j : Nat) v, (ipA m.net)[j]? = some v → w5.cell? ((⟨B0, 0, none⟩ : Addr).add j) = some v) := fun j v hv => KA w5 (Below.refl _ _) j v (roA_net m j v hv)
    have HPL := Lib.hid (place_any v2 K m.net b w5 (SlT.own (by rw [HN.out]; exact HO5.out)) (by rw [HN.out]; omega))
    clear hw5 KA hm
    go_upto_region 5 with (refine wpList_store_elem rfl 26 _ _ rfl B0 0 (ipA (maskX r.net b)) rfl rfl (roA r) _ HX4.out HZ4.out (by rw [ipE.size]; kernel_rfl) (ipE.one _) (roA m) HMC.out ?_)
    rw [HW5.out]
    clear HW5 HX4 HB4 HO4 HS4 HMC HZ4
    obtain ⟨CN, hCN⟩ : ∃ CN, ipA m.net = CN := ⟨_, rfl⟩
    have HCS : Hid (CN.size = 4) := by rw [← hCN]; exact ipE.size _
    rw [hCN] at HAN HPL
    clear hCN
    rcases idxV_cases (isR m.net b) K with ⟨hi, hf⟩ | ⟨k, hi, hin, hf⟩
    · rw [hi] at HPL
      have HNO : Hid (K.any (isR m.net m.bits) = false) := by rw [HMB.out]; exact any_none hf
      clear hi hf
      go_wp2_with (refine wpList_load_atA rfl 26 _ rfl ⟨B0, 0, none⟩ rfl CN _ HAN.out Try.underlying26 rfl (by rw [HCS.out]; kernel_rfl) ?_)
      refine HPL.out.mono ?_
      rintro e w6 ⟨rfl, hb6⟩
      have HX6 := Lib.hid (old_below HX5.out hb6 (row_lt HX5.out))
      have HB6 := Lib.hid (HB5.out.trans (hb6.mono HB5.out.size))
      have HO6 := Lib.hid (ownk_below HO5.out hb6 (Nat.le_refl _))
      have HS6 : Hid (L0 ≤ w6.heap.size) := Nat.le_trans HS5.out hb6.size
      clear hb6 HPL HAN c4 HX5 HB5 HO5 HS5
      obtain ⟨A2, c2, rfl, hc2, hcm2, -⟩ := ownk_form HO6.out
      have hcm3 : c2 ≤ 9223372036854775807 := by unfold maxLen at hcm2; omega
      clear hcm2
      by_cases hn8 : 8 ≤ n
      · have HV : Hid (addX K r = (K, 5)) := by
          show _ = _
          unfold addX
          rw [if_neg (by rw [HRB.out]; omega), HMR.out, HRB.out, ← HMB.out, HNO.out, if_neg (by decide), if_pos (by rw [HN.out]; omega)]
        go_wp2
        refine ret_tmp2 rfl rfl ?_
        rw [HV.out]
        exact ⟨_, rfl, SlT.own (by rw [HN.out]; exact HO6.out), HB6.out⟩
      · have HV : Hid (addX K r = (insX m K, 0)) := by
          show _ = _
          unfold addX
          rw [if_neg (by rw [HRB.out]; omega), HMR.out, HRB.out, ← HMB.out, HNO.out, if_neg (by decide), if_neg (by rw [HN.out]; omega)]
        have HIB := Lib.hid (ins_bef HNO.out)
        obtain ⟨i, hib⟩ : ∃ i, befX K m = i := ⟨_, rfl⟩
        have hile : i ≤ n := by rw [← hib, ← HN.out]; exact bef_le K m
        have HIX := Lib.hid hib
        rw [hib] at HIB
        have HOB : Hid (∀ g, (Value.slice A2 n c2).ownBlock = some g → L0 ≤ g ∧ g < w6.heap.size) := fun g hg => by
          obtain ⟨C, hC⟩ := ownk_cells_of HO6.out hg
          rcases HO6.out.2 with h | ⟨g2, c3, cur, h, h2, _⟩
          · exact absurd hg (by rw [h.1]; simp [Value.ownBlock])
          · injection h with h
            rw [h] at hg
            have hg2 : some g2 = some g := hg
            injection hg2 with hg2
            exact ⟨by omega, row_lt hC⟩
        have HMS : Hid ((roA m).size = 9) := roE.size m
        have HM1 : Hid (∀ u ∈ (roA m).toList, u.oneCell' = true) := el_ones roE m
        have HRW := Lib.hid (rows_ins roE K i m)
        have HR1 := Lib.hid (rows_ones roE K)
        obtain ⟨xs, hxs⟩ : ∃ xs, rowsOf roA K = xs := ⟨_, rfl⟩
        have HBF : Hid (∀ w' : World, w'.ownsRow L0 28 9 (.slice A2 n c2) n xs → Calls Try.prog 24 #[.slice A2 n c2, .agg (roA m)] w' fun e w'' => e = .returned (.int .i64 (i : Int)) ∧ Below w'.heap.size w' w'') := fun w' ho => by
          have := before_any (.slice A2 n c2) K m w' (SlT.own (by rw [HN.out, hxs]; exact ho)) (by rw [HN.out]; omega)
          rwa [HIX.out] at this
        rw [hxs] at HRW HR1 HO6
        obtain ⟨CM, hCM⟩ : ∃ CM, roA m = CM := ⟨_, rfl⟩
        rw [hCM] at HX6 HMS HM1 HBF HRW
        clear hxs hib hCM
        go_upto_region 9 with (fail)
        apply wp_region_relyG [6] (fun Ld w' => w6.grownBy w' (Value.slice A2 n c2).ownBlock ∧ (Ld 6 = false → w'.ownsRow L0 28 9 (.slice A2 n c2) n xs)) (RL [Is _, Is _, Is (.agg CM), Is (.int .i64 (i : Int)), Is (.agg CM), fun v w => ∃ g, v = .slice (some ⟨g, 0, none⟩) 1 1 ∧ w.heap[g]? = some (.cells CM 28 (0, 0)) ∧ w6.heap.size ≤ g, OwnR L0 28 9 (n + 1) (xs.take (i * 9) ++ CM.toList ++ xs.drop (i * 9)), OwnR L0 28 9 (n + 1) (xs.take (i * 9) ++ CM.toList ++ xs.drop (i * 9)), Is (.int .i64 0)]) [false, false, false, false, true, true, false, false, false, false, false, false, false, false, false, false, false, false, false, false, false, false, false, false, false, false, false, false, false, false, false, true, true, true, true, true, true, true]
        · kernel_rfl
        · kernel_rfl
        · kernel_rfl
        · refine ⟨?_, ?_, ?_, ?_, ?_, ?_, ?_, ?_, ?_, trivial⟩
          · intro Ld ev w' hC hL hx K hK
            have e0 : ev (.tmp 0) = _ := hx.base 0 (by kernel_rfl)
            have HK := Lib.hid hK
            have HC := Lib.hid hC
            have HL := Lib.hid hL
            have HX := Lib.hid hx
            have hc := hx.cst
            skip
            clear hx hK hC hL
            unfold Run
            simp [execOp, Upon, go_sem, *]
            exact HK.out _ _ (.inl ⟨Below.refl _ _, by decide⟩) rfl
          · intro Ld ev w' hC hL hx K hK
            have e0 : ev (.tmp 0) = _ := hx.base 0 (by kernel_rfl)
            have HK := Lib.hid hK
            have HC := Lib.hid hC
            have HL := Lib.hid hL
            have HX := Lib.hid hx
            have hc := hx.cst
            skip
            clear hx hK hC hL
            unfold Run
            simp [execOp, Upon, go_sem, *]
            exact HK.out _ _ (.inl ⟨Below.refl _ _, by decide⟩) rfl
          · intro Ld ev w' hC hL hx K hK
            have e3 : ev (.tmp 3) = _ := hx.base 3 (by kernel_rfl)
            have HK := Lib.hid hK
            have HC := Lib.hid hC
            have HL := Lib.hid hL
            have HX := Lib.hid hx
            have hc := hx.cst
            skip
            clear hx hK hC hL
            have q1 : ev (.tmp 3) = .pointer (some ⟨B0, 0, none⟩) := e3
            have hld := run_loadVar_row (P := Try.prog) w' B0 28 28 CM (0, 0) _ ((HC.out.1.block B0 (row_lt HX6.out) (fun e => by have := (HOB.out B0 e.symm).1; omega)).trans HX6.out) Try.underlying28 rfl (by rw [HMS.out]; kernel_rfl)
            unfold Run
            rw [run_loadE 28 _ rfl q1 hld]
            exact HK.out _ _ (.inl ⟨Below.refl _ _, by decide⟩) rfl
          · intro Ld ev w' hC hL hx K hK
            have e32 := hx.held 1 _ rfl (by kernel_rfl)
            have e33 := hx.held 2 _ rfl (by kernel_rfl)
            change ev (.tmp 32) = _ at e32
            change ev (.tmp 33) = _ at e33
            have HK := Lib.hid hK
            have HC := Lib.hid hC
            have HL := Lib.hid hL
            have HX := Lib.hid hx
            have hc := hx.cst
            have hf := hx.fn
            clear hx hK hC hL
            have hL6 : Ld 6 = false := Bool.eq_false_iff.2 fun h => by have h1 := HX.out.closed 6 _ 3 rfl h (by kernel_rfl); rw [HL.out] at h1; cases h1
            have HQB := Lib.hid (HBF.out w' (HC.out.2 hL6))
            clear hL6
            unfold Run
            simp [execOp, Upon, go_sem, *]
            refine HQB.out.mono ?_
            rintro e w9 ⟨rfl, hb9⟩
            exact ⟨_, rfl, HK.out _ _ (.inl ⟨hb9, by decide⟩) rfl⟩
          · intro Ld ev w' hC hL hx K hK
            have e3 : ev (.tmp 3) = _ := hx.base 3 (by kernel_rfl)
            have HK := Lib.hid hK
            have HC := Lib.hid hC
            have HL := Lib.hid hL
            have HX := Lib.hid hx
            have hc := hx.cst
            skip
            clear hx hK hC hL
            have q1 : ev (.tmp 3) = .pointer (some ⟨B0, 0, none⟩) := e3
            have hld := run_loadVar_row (P := Try.prog) w' B0 28 28 CM (0, 0) _ ((HC.out.1.block B0 (row_lt HX6.out) (fun e => by have := (HOB.out B0 e.symm).1; omega)).trans HX6.out) Try.underlying28 rfl (by rw [HMS.out]; kernel_rfl)
            unfold Run
            rw [run_loadE 28 _ rfl q1 hld]
            exact HK.out _ _ (.inl ⟨Below.refl _ _, by decide⟩) rfl
          · intro Ld ev w' hC hL hx K hK
            have e35 := hx.held 4 _ rfl (by kernel_rfl)
            change ev (.tmp 35) = _ at e35
            have HK := Lib.hid hK
            have HC := Lib.hid hC
            have HL := Lib.hid hL
            have HX := Lib.hid hx
            have hc := hx.cst
            skip
            clear hx hK hC hL
            have q35 : ev (.tmp 35) = .agg CM := e35
            have hrun := run_build_one (P := Try.prog) w' 24 28 CM Try.underlying24 9 (by decide) (by decide) (by kernel_rfl) HMS.out
            unfold Run
            rw [run_buildE 24 _ rfl q35 hrun]
            exact HK.out _ _ (.inl ⟨(Below.refl _ _).alloc (Nat.le_refl _) _, by decide⟩) ⟨_, rfl, heap_alloc_new w' _, HC.out.1.size⟩
          · intro Ld ev w' hC hL hx K hK
            have e31 := hx.held 0 _ rfl (by kernel_rfl)
            have e34 := hx.held 3 _ rfl (by kernel_rfl)
            have e36 := hx.held 5 _ rfl (by kernel_rfl)
            change ev (.tmp 31) = _ at e31
            change ev (.tmp 34) = _ at e34
            change (fun v w => ∃ g, v = .slice (some ⟨g, 0, none⟩) 1 1 ∧ w.heap[g]? = some (.cells CM 28 (0, 0)) ∧ w6.heap.size ≤ g : Pred) (ev (.tmp 36)) w' at e36
            have HK := Lib.hid hK
            have HC := Lib.hid hC
            have HL := Lib.hid hL
            have HX := Lib.hid hx
            have hc := hx.cst
            have hf := hx.fn
            clear hx hK hC hL
            obtain ⟨gk, q36, hgk, hgl⟩ := e36
            have q31 : ev (.tmp 31) = .slice A2 n c2 := e31
            have HIN := Lib.hid (inR_any (.slice A2 n c2) n i L0 gk CM xs w' HMS.out HM1.out (HC.out.2 HL.out) HR1.out hgk (fun g hg => by have := (HOB.out g hg).2; omega) (by omega) hile (Nat.le_trans HS6.out HC.out.1.size))
            clear hgk
            unfold Run
            simp [execOp, Upon, go_sem, *]
            refine HIN.out.mono ?_
            rintro e w9 ⟨v9, rfl, ho9, hg9⟩
            refine ⟨_, rfl, HK.out _ _ (.inr ⟨⟨HC.out.1.trans hg9, fun h => by simp [upd] at h⟩, fun j hj hlj u hr => ?_⟩) ho9⟩
            refine rl_sg (S := fun x y => w6.heap.size ≤ x.heap.size ∧ x.grownBy y (Value.slice A2 n c2).ownBlock) (ex := [6, 7]) 0 (by exact ⟨.inr (is_sg _ _), .inr (is_sg _ _), .inr (is_sg _ _), .inr (is_sg _ _), .inr (is_sg _ _), .inr (fun u x y hxy ⟨g, h1, h2, h3⟩ => ⟨g, h1, (hxy.2.block g (row_lt h2) (fun e => by have := (HOB.out g e.symm).2; omega)).trans h2, h3⟩), .inl rfl, .inl rfl, .inr (is_sg _ _), trivial⟩) j u _ _ ?_ ⟨HC.out.1.size, hg9⟩ hr
            have hj7 : j ≠ 7 := fun e => by
              subst e
              have h1 := HX.out.closed 7 _ 6 rfl hlj (by kernel_rfl)
              rw [HL.out] at h1
              cases h1
            simp at hj ⊢
            omega
          · intro Ld ev w' hC hL hx K hK
            have e37 := hx.held 6 _ rfl (by kernel_rfl)
            change (OwnR L0 28 9 (n + 1) (xs.take (i * 9) ++ CM.toList ++ xs.drop (i * 9)) : Pred) (ev (.tmp 37)) w' at e37
            have HK := Lib.hid hK
            have HC := Lib.hid hC
            have HL := Lib.hid hL
            have HX := Lib.hid hx
            have hc := hx.cst
            skip
            clear hx hK hC hL
            have E37 := Lib.hid e37
            clear e37
            unfold Run
            simp [execOp, Upon, go_sem, *]
            exact HK.out _ _ (.inl ⟨Below.refl _ _, by decide⟩) E37.out
          · intro Ld ev w' hC hL hx K hK
            have HK := Lib.hid hK
            have HC := Lib.hid hC
            have HL := Lib.hid hL
            have HX := Lib.hid hx
            have hc := hx.cst
            skip
            clear hx hK hC hL
            unfold Run
            simp [execOp, Upon, go_sem, *]
            exact HK.out _ _ (.inl ⟨Below.refl _ _, by decide⟩) rfl
        · exact rl_mono ⟨is_mono _, is_mono _, is_mono _, is_mono _, is_mono _, fun _ _ _ hb ⟨g, h1, h2, h3⟩ => ⟨g, h1, (hb.block g (row_lt h2)).trans h2, h3⟩, ownr_mono _ _ _ _ _, ownr_mono _ _ _ _ _, is_mono _, trivial⟩
        · exact fun L1 L2 w1 he h => ⟨h.1, fun hh => h.2 (by rw [he 6 (by simp)]; exact hh)⟩
        · exact fun L1 w1 w2 hb h => ⟨grown_below h.1 hb, fun hh => ownk_below (h.2 hh) hb (Nat.le_refl _)⟩
        · exact ⟨World.grownBy.refl _ _, fun _ => HO6.out⟩
        · simp
        intro us wr hG hH
        obtain ⟨-, -, -, -, -, -, -, h7, h8, -⟩ := hH
        simp only [fillM]
        change (OwnR L0 28 9 (n + 1) (xs.take (i * 9) ++ CM.toList ++ xs.drop (i * 9)) : Pred) (us 4) wr at h7
        change us 5 = _ at h8
        rw [h8]
        clear h8
        generalize us 31 = v31
        generalize us 32 = v32
        generalize us 33 = v33
        generalize us 34 = v34
        generalize us 35 = v35
        generalize us 36 = v36
        generalize us 37 = v37
        generalize us 4 = v4 at h7 ⊢
        change wr.ownsRow L0 28 9 v4 (n + 1) (xs.take (i * 9) ++ CM.toList ++ xs.drop (i * 9)) at h7
        have HO9 := Lib.hid h7
        have HB9 : Hid (Below w.heap.size w wr) := HB6.out.trans (below_grown hG.1 HB6.out.size (fun g hg => by have := (HOB.out g hg).1; have := HBB.out; omega))
        clear h7 hG
        go_wp2
        refine ret_tmp2 rfl rfl ?_
        rw [HV.out]
        refine ⟨v4, rfl, SlT.own (e := 28) (base := L0) (k := 9) ?_, HB9.out⟩
        show wr.ownsRow L0 28 9 v4 (insX m K).length (rowsOf roA (insX m K))
        rw [ins_length, HIB.out, HN.out, ← HRW.out]
        exact HO9.out
    · rw [hi] at HPL
      have HNO : Hid (K.any (isR m.net m.bits) = true) := by rw [HMB.out]; exact any_some hf
      have hk0 : (0 : Int) ≤ (k : Int) := by omega
      clear hi hf
      have HV : Hid (addX K r = (K, 9)) := by
        show _ = _
        unfold addX
        rw [if_neg (by rw [HRB.out]; omega), HMR.out, HRB.out, ← HMB.out, HNO.out, if_pos rfl]
      go_wp2_with (refine wpList_load_atA rfl 26 _ rfl ⟨B0, 0, none⟩ rfl CN _ HAN.out Try.underlying26 rfl (by rw [HCS.out]; kernel_rfl) ?_)
      refine HPL.out.mono ?_
      rintro e w6 ⟨rfl, hb6⟩
      have HB6 := Lib.hid (HB5.out.trans (hb6.mono HB5.out.size))
      have HO6 := Lib.hid (ownk_below HO5.out hb6 (Nat.le_refl _))
      clear hb6
      go_wp2
      refine ret_tmp2 rfl rfl ?_
      rw [HV.out]
      exact ⟨_, rfl, SlT.own (by rw [HN.out]; exact HO6.out), HB6.out⟩
  · have HMY : Hid (∀ w, Calls Try.prog 21 #[.int .i64 r.bits] w fun e w' => e = .returned (.bool false) ∧ w = w') := fun w => by have := may_any r.bits w; rwa [show mayX r.bits = false from decide_eq_false hmy] at this
    have HV : Hid (addX K r = (K, 1)) := by
      show _ = _
      unfold addX
      rw [if_pos (by omega)]
    go_enter Try.func11, Try.ntmps11
    go_upto_region 1 with (fail)
    change Code.wp _ _ _ _ (w.alloc (.cells (roA r) 28))
    rw [HW.out, HBB.out]
    clear HW
    go_wp2_with fail
    refine HCL.out.mono ?_
    rintro e w2 ⟨v2, rfl, ho, hb2⟩
    have HO2 := Lib.hid ho
    have HX2 := Lib.hid (old_below HX0.out hb2 (by omega))
    have HB2 : Hid (Below w.heap.size w w2) := HB1.out.trans (hb2.mono (by rw [← HLL.out]; exact HB1.out.size))
    have HS2 : Hid (L0 ≤ w2.heap.size) := by show _ ≤ _; rw [← HLL.out]; exact hb2.size
    clear ho hb2 HCL HB1 HX0
    have c4 : w2.cell? ⟨B0, 4, none⟩ = some (.int .i64 r.bits) := (cell_of_row _ _ _ _ _ _ HX2.out).trans (roA_bits r)
    generalize r.bits = z at c4 HMY hmy
    clear hmy
    go_wp2_with fail
    refine (HMY.out w2).mono ?_
    rintro e w3 ⟨rfl, rfl⟩
    go_wp2
    refine ret_tmp2 rfl rfl ?_
    rw [HV.out]
    exact ⟨_, rfl, SlT.own (by rw [HN.out]; exact HO2.out), HB2.out⟩
end Go.Proofs.Ytfifigokglmjlaa
