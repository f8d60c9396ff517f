/-
  The document's Like of wheels. Every two wheels of at most 1000 timers.
-/
import Derived.Test.YtljochpomgjjeaaTs
import Derived.Deep.RegionLaw
import Derived.Test.YtljochpomgjjeaaRft
namespace Go.Proofs.Ytljochpomgjjeaa
open Go.RowKit

theorem lit_ones {a b : Int} (K : List Tm) : ∀ u ∈ [Value.int .i64 a, Value.int .u64 b] ++ rowsOf tmA K, u.oneCell' = true := by
  intro u hu
  rcases List.mem_append.1 hu with hu | hu
  · simp at hu
    rcases hu with rfl | rfl <;> rfl
  · exact rows_ones tmE K u hu
theorem own_lit_grown {w w' : World} {base k n : Nat} {e : TypeId} {v : Value} {xs : List Value} {o : Obj} (h : w.ownsRow base e k v n xs) (hg : (w.drew.alloc o).grownBy w' (Value.ownBlock (.slice (some ⟨w.heap.size, 0, none⟩) 1 1))) : w'.ownsRow base e k v n xs := by
  refine ⟨h.1, ?_⟩
  rcases h.2 with h2 | ⟨g, cap, cur, rfl, h1, h2, h3⟩
  · exact .inl h2
  · have hlt : g < w.heap.size := row_lt h2
    refine .inr ⟨g, cap, cur, rfl, h1, (hg.block g (by rw [World.size_alloc]; exact Nat.lt_succ_of_lt hlt) fun he => ?_).trans ((Below.heap_alloc w.drew o g hlt).trans h2), h3⟩
    simp [Value.ownBlock] at he
    omega

set_option maxRecDepth 100000 in
set_option maxHeartbeats 16000000 in
theorem like_any (v u : Value) (n n2 : Nat) (S T : List Tm) (w : World) (hv : WhT w v n S) (hu : WhT w u n2 T) (hl : S.length ≤ 1000) :
    Calls Try.prog 15 #[v, u] w fun e w' => e = .returned (.bool (decide (n2 = n ∧ T = sortT S))) ∧ Below w.heap.size w w' := by
  obtain ⟨s, rfl, hs⟩ := hv
  obtain ⟨s2, rfl, hs2⟩ := hu
  obtain ⟨As, cs, rfl, hts, -, hsn, hsc⟩ := hs
  obtain ⟨At, ct, rfl, htt, -, htn, htc⟩ := hs2
  obtain ⟨sn, hsl⟩ : ∃ sn, S.length = sn := ⟨_, rfl⟩
  obtain ⟨tn, htl⟩ : ∃ tn, T.length = tn := ⟨_, rfl⟩
  have HSL := Lib.hid hsl
  have HTL := Lib.hid htl
  rw [hsl] at hl hsn ⊢
  rw [htl] at htn ⊢
  have hsc2 : cs ≤ 9223372036854775807 := by unfold maxLen at hsc; omega
  have htc2 : ct ≤ 9223372036854775807 := by unfold maxLen at htc; omega
  obtain ⟨w1, hw1⟩ : ∃ w1, (w.alloc (.cells #[.int .u64 (n : Int), .slice As sn cs] 29)).alloc (.cells #[.int .u64 (n2 : Int), .slice At tn ct] 27) = w1 := ⟨_, rfl⟩
  have HB1 : Hid (Below w.heap.size w w1) := by rw [← hw1]; exact ((Below.refl _ _).alloc (Nat.le_refl _) _).alloc (by simp) _
  have HX0 : Hid (w1.heap[w.heap.size]? = some (.cells #[.int .u64 (n : Int), .slice As sn cs] 29 (0, 0))) := by rw [← hw1]; exact old_alloc (heap_alloc_new w _) _
  have HX1 : Hid (w1.heap[w.heap.size + 1]? = some (.cells #[.int .u64 (n2 : Int), .slice At tn ct] 27 (0, 0))) := by rw [← hw1]; exact new_at1 w _ _
  have HW := Lib.hid hw1
  have HTS := Lib.hid ((hts.below HB1.out (Nat.le_refl _)).rd)
  have HTT := Lib.hid ((htt.below HB1.out (Nat.le_refl _)).rd)
  obtain ⟨g, hg⟩ : ∃ g, w.heap.size + 1 = g := ⟨_, rfl⟩
  rw [hg] at HX1
  have HG := Lib.hid hg
  have HSO := Lib.hid (sort_len S)
  clear hw1 hg hsl htl hts htt hsc htc
  obtain ⟨a0, a1⟩ := two_cells HX0.out
  obtain ⟨b0, b1⟩ := two_cells HX1.out
  by_cases hnn : n2 = n
  rotate_left
  · have HV : Hid (¬ (n2 = n ∧ T = sortT S)) := fun h => hnn h.1
    have hnn2 : ¬ (n2 : Int) = (n : Int) := by omega
    go_enter Try.func15, Try.ntmps15
    go_upto_region 1 with (fail)
    change Code.wp _ _ _ _ ((w.alloc (.cells #[.int .u64 (n : Int), .slice As sn cs] 29)).alloc (.cells #[.int .u64 (n2 : Int), .slice At tn ct] 27))
    rw [HW.out, HG.out]
    go_wp2
    go_ret
    exact ⟨congrArg (fun b => Ending.returned (Value.bool b)) (decide_eq_false (fun h => HV.out h)).symm, HB1.out⟩
  subst hnn
  by_cases hts : tn = sn
  rotate_left
  · have HV : Hid (¬ T = sortT S) := fun h => hts (by rw [← HTL.out, h, HSO.out, HSL.out])
    have hts2 : ¬ (tn : Int) = (sn : Int) := by omega
    go_enter Try.func15, Try.ntmps15
    go_upto_region 1 with (fail)
    change Code.wp _ _ _ _ ((w.alloc (.cells #[.int .u64 (n2 : Int), .slice As sn cs] 29)).alloc (.cells #[.int .u64 (n2 : Int), .slice At tn ct] 27))
    rw [HW.out, HG.out]
    go_wp2
    go_ret
    exact ⟨congrArg (fun b => Ending.returned (Value.bool b)) (decide_eq_false (fun h => HV.out h.2)).symm, HB1.out⟩
  subst hts
  go_enter Try.func15, Try.ntmps15
  go_upto_region 1 with (fail)
  change Code.wp _ _ _ _ ((w.alloc (.cells #[.int .u64 (n2 : Int), .slice As tn cs] 29)).alloc (.cells #[.int .u64 (n2 : Int), .slice At tn ct] 27))
  rw [HW.out, HG.out]
  go_wp2
  clear a0 a1 b0 b1
  go_loopw [5, 6] (fun t5 t6 wr => ∃ i : Nat, i ≤ tn ∧ t6 = .int .i64 (i : Int) ∧ Hid (wr.ownsRow w1.heap.size 53 2 t5 i (rowsOf tmA (sortT (S.take i)))) ∧ Hid (Below w1.heap.size w1 wr)) (fun _ t6 _ => tn - (intOf t6).toNat)
  case atStart => exact ⟨0, Nat.zero_le _, rfl, Lib.hid (World.ownsRow_nil _ _ _ _), Lib.hid (Below.refl _ _)⟩
  case round =>
    obtain ⟨i, hi, rfl, HOW, HBW⟩ := hrel
    generalize u5 = v5 at HOW ⊢
    have HXW := Lib.hid (old_below HX0.out HBW.out (row_lt HX0.out))
    have HYW := Lib.hid (old_below HX1.out HBW.out (row_lt HX1.out))
    obtain ⟨b0, b1⟩ := two_cells HXW.out
    by_cases hlt : i < tn
    · obtain ⟨x, hx⟩ : ∃ x, S[i]? = some x := ⟨_, List.getElem?_eq_getElem (by rw [HSL.out]; exact hlt)⟩
      obtain ⟨ad, rfl, hKA⟩ := el_all tmE HTS.out (by omega) hx
      have HKA := Lib.hid hKA
      have HSS := Lib.hid (sort_snoc hx)
      have HSL2 : Hid ((sortT (S.take i)).length = i) := by show _ = _; rw [sort_len, List.length_take, HSL.out]; omega
      have HSD := Lib.hid (sort_sorted (S.take i))
      have HRX : Hid (∀ L M, rowsOf tmA (L ++ x :: M) = rowsOf tmA L ++ ((tmA x).toList ++ rowsOf tmA M)) := fun L M => by rw [rows_append, rows_cons]
      have HXT : Hid (tmA x = #[.int .i64 x.id, .int .u64 (x.due : Int)]) := rfl
      obtain ⟨z, hz⟩ : ∃ z, x.due = z := ⟨_, rfl⟩
      have HZ := Lib.hid hz
      rw [hz] at HXT
      generalize sortT (S.take i) = L at HOW HSS HSL2 HSD
      obtain ⟨A5, c5, rfl, h5c, hc5, hA5⟩ := ownk_form HOW.out
      have hc5b : c5 ≤ 9223372036854775807 := by unfold maxLen at hc5; omega
      have HA5 := Lib.hid hA5
      clear hx hKA hz hc5 hA5
      rename World => wo
      go_wp2
      clear b0 b1
      go_loopw [7] (fun t7 wr => ∃ k : Nat, k ≤ i ∧ t7 = .int .i64 (k : Int) ∧ Hid (∀ j y, k ≤ j → L[j]? = some y → z < y.due) ∧ Hid (Below wo.heap.size wo wr)) (fun t7 _ => (intOf t7).toNat)
      case atStart => exact ⟨i, Nat.le_refl _, rfl, Lib.hid (fun j y hj hy => by have := (List.getElem?_eq_some_iff.1 hy).1; rw [HSL2.out] at this; omega), Lib.hid (Below.refl _ _)⟩
      case round =>
        obtain ⟨k, hk, rfl, HHI, HBI⟩ := hrel
        have HXI := Lib.hid (old_below HXW.out HBI.out (row_lt HXW.out))
        have HBV := Lib.hid (HBW.out.trans (HBI.out.mono HBW.out.size))
        have KX1 : Hid (∀ w', Reg wr w' → w'.cell? ((⟨w.heap.size, 0, none⟩ : Addr).add 1) = some (.slice (some ad) tn cs)) := fun w' hr => (two_cells (old_below HXI.out (reg_below hr) (row_lt HXI.out))).2
        have KA1 : Hid (∀ w', Reg wr w' → w'.cell? ((ad.add (i * 2)).add 1) = some (.int .u64 (z : Int))) := fun w' hr => HKA.out w' (HBV.out.trans ((reg_below hr).mono HBV.out.size)) 1 _ (by rw [HXT.out]; rfl)
        rcases Nat.eq_zero_or_pos k with hk00 | hk0
        · have hkz : ¬ (0 : Int) < (k : Int) := by omega
          have HLO : Hid (∀ y, 0 < k → L[k - 1]? = some y → y.due ≤ z) := fun y h => by omega
          go_upto_region 8 with (fail)
          refine wp_region_quiet_below (by kernel_rfl) (by kernel_rfl) ?_
          (first | go_big_quiet_step (fail) | quiet_step (fail))
          (first | go_big_quiet_step (fail) | quiet_step (fail))
          (first | go_big_quiet_step (fail) | quiet_step (fail))
          (first | go_big_quiet_step (fail) | quiet_step (fail))
          (first | go_big_quiet_step (fail) | quiet_step (fail))
          (first | go_big_quiet_step (fail) | quiet_step (fail))
          (first | go_big_quiet_step (fail) | quiet_step (fail))
          (first | go_big_quiet_step (fail) | quiet_step (fail))
          (first | go_big_quiet_step (fail) | quiet_step (fail))
          (first | go_big_quiet_step (fail) | quiet_step (fail))
          (first | go_big_quiet_step (fail) | quiet_step (fail))
          (first | go_big_quiet_step (fail) | quiet_step (fail))
          (first | go_big_quiet_step (fail) | quiet_step (fail))
          (first | go_big_quiet_step (fail) | quiet_step (fail))
          (first | go_big_quiet_step (fail) | quiet_step (fail))
          (first | go_big_quiet_step (fail) | quiet_step (fail))
          (first | go_big_quiet_step (fail) | quiet_step (fail))
          refine wpQuiet_nil ?_
          intro w9 hw9
          obtain ⟨⟨dq, osq⟩, rfl⟩ := hw9
          have HBA := Lib.hid ((HBI.out).trans ((below_regrown wr dq osq).mono (HBI.out).size))
          generalize Sort.grow (redrawn wr dq) osq = wa at *
          obtain rfl : k = 0 := hk00
          rcases A5 with _ | la
          · obtain rfl : c5 = 0 := HA5.out rfl
            obtain rfl : i = 0 := by omega
            have HNL : Hid (insT x L = L.take 0 ++ x :: L.drop 0) := ins_at HSD.out (by rw [HSL2.out]; exact hk) (fun j y hj hy => by rw [HZ.out]; exact HHI.out j y hj hy) (fun y h hy => by rw [HZ.out]; exact HLO.out y h hy)
            have HWA := Lib.hid (HBW.out.trans (HBA.out.mono HBW.out.size))
            have HOA := Lib.hid (ownk_below HOW.out HBA.out (Nat.le_refl _))
            have HXA := Lib.hid (old_below HXW.out HBA.out (row_lt HXW.out))
            obtain ⟨b0, b1⟩ := two_cells HXA.out
            have hc0 : wa.cell? ad = some (.int .i64 x.id) := HKA.out wa HWA.out 0 (.int .i64 x.id) (by rw [HXT.out]; rfl)
            have hc1 : wa.cell? ⟨ad.block, ad.off + 1, none⟩ = some (.int .u64 (z : Int)) := HKA.out wa HWA.out 1 _ (by rw [HXT.out]; rfl)
            obtain ⟨i0, q0, q1, q2, q3⟩ := info_tm2
            have hki : (0 : Int) ≤ (0 : Int) := by omega
            have hki2 : 0 ≤ 0 := by omega
            have HLIT : Hid ((wa.drew.alloc (.cells #[.int .i64 x.id, .int .u64 (z : Int)] 53)).ownsRow w1.heap.size 53 2 (.slice (some ⟨wa.heap.size, 0, none⟩) 1 1) 1 [.int .i64 x.id, .int .u64 (z : Int)]) := ⟨rfl, .inr ⟨wa.heap.size, 1, _, rfl, HWA.out.size, heap_alloc_new wa.drew _, Nat.le_refl _, by unfold maxLen; omega, rfl, rfl⟩⟩
            have HBS : Hid (w1.heap.size ≤ (wa.drew.alloc (.cells #[.int .i64 x.id, .int .u64 (z : Int)] 53)).heap.size) := by
              show _ ≤ _
              have := HWA.out.size
              rw [World.size_alloc]
              exact Nat.le_succ_of_le this
            have HLD : Hid ((rowsOf tmA (L.drop 0)).length = (0 - 0) * 2) := by show _ = _; rw [rows_length tmE, List.length_drop, HSL2.out]
            have HLT : Hid ((rowsOf tmA (L.take 0)).length = 0 * 2) := by show _ = _; rw [rows_length tmE, List.length_take, HSL2.out]; omega
            have HRD : Hid (Rd (wa.drew.alloc (.cells #[.int .i64 x.id, .int .u64 (z : Int)] 53)) 0 wa.heap.size none (rowsOf tmA (L.drop 0))) := by
              have h0 : rowsOf tmA (L.drop 0) = [] := by
                have h1 := HSL2.out
                have h2 : L = [] := List.length_eq_zero_iff.1 h1
                rw [h2]
                rfl
              rw [h0]
              exact Rd.nil
            go_wp2
            go_region_law (refine step_append_rdk rfl (.tmp 57) (.tmp 60) 25 rfl w1.heap.size 53 i0 _ 2 16 Try.underlying25 q0 q1 q2 q3 rfl (by decide) (.slice (some ⟨wa.heap.size, 0, none⟩) 1 1) 1 [.int .i64 x.id, .int .u64 (z : Int)] (by simp [Act.eval]) HLIT.out none 0 0 (rowsOf tmA (L.drop 0)) (by simp [Act.eval, *]) (fun _ => rfl) (by rw [HLD.out] <;> omega) HRD.out (rows_ones tmE _) (by unfold maxLen; omega) (by omega) HBS.out ?_; intro v8 w8 hown8 hgrow8 _)
            have HB8 : Hid (Below w1.heap.size w1 w8) := ((HWA.out.drew).alloc HWA.out.size _).grown hgrow8 HBS.out fun g hg => by
              simp [Value.ownBlock] at hg
              rw [← hg]
              exact HWA.out.size
            have HO8 : Hid (w8.ownsRow w1.heap.size 53 2 v8 (1 + 0) ([.int .i64 x.id, .int .u64 (z : Int)] ++ rowsOf tmA (L.drop 0))) := hown8
            have HOL : Hid (w8.ownsRow w1.heap.size 53 2 (.slice none 0 0) 0 (rowsOf tmA L)) := own_lit_grown HOA.out hgrow8
            clear hown8 hgrow8 b0 b1 hc0 hc1
            obtain ⟨A8, c8, rfl, h8c, hc8, hA8⟩ := ownk_form HO8.out
            have hc8b : c8 ≤ 9223372036854775807 := by unfold maxLen at hc8; omega
            have HA8 := Lib.hid hA8
            clear hc8 hA8
            have HEW := Lib.hid (own_empty w8 53 2)
            have HRT : Hid (Rd (w8.alloc (.cells #[] 53)) 0 w8.heap.size none (rowsOf tmA (L.take 0))) := by
              have := ((((Tr.own HOL.out).rd.wide (Nat.zero_le _) (Nat.le_refl _))).alloc (Nat.le_refl _) (.cells #[] 53)).take (0 * 2)
              rw [rows_take tmE] at this
              exact this
            go_wp2_with (first | (at_builtin; refine wpList_append_rdk rfl _ _ 25 rfl w8.heap.size 53 i0 _ 2 16 Try.underlying25 q0 q1 q2 q3 rfl (by decide) (.slice (some ⟨w8.heap.size, 0, none⟩) 0 0) 0 [] rfl HEW.out none 0 0 (rowsOf tmA (L.take 0)) rfl (fun _ => rfl) HLT.out HRT.out (rows_ones tmE _) (by unfold maxLen; omega) (by omega) (by simp) ?_; intro v9 w9 hown9 hgrow9 _; rw [List.nil_append, Nat.zero_add] at hown9; have HO9 := Lib.hid hown9; have HBN9 : Hid (Below w8.heap.size w8 w9) := ((Below.refl _ _).alloc (Nat.le_refl _) _).grown hgrow9 (by simp) fun g hg => (HEW.out.lt g hg).1; clear hown9 hgrow9; have HS9 := Lib.hid HBN9.out.size; have HO89 := Lib.hid (ownk_below HO8.out HBN9.out (Nat.le_refl _)); have HR9 : Hid (Rd w9 w1.heap.size w9.heap.size A8 ([.int .i64 x.id, .int .u64 (z : Int)] ++ rowsOf tmA (L.drop 0))) := ownk_rd HO89.out) | (at_builtin; refine wpList_append_rdk rfl _ _ 25 rfl w8.heap.size 53 i0 _ 2 16 Try.underlying25 q0 q1 q2 q3 rfl (by decide) v9 0 (rowsOf tmA (L.take 0)) rfl HO9.out A8 (1 + 0) c8 ([.int .i64 x.id, .int .u64 (z : Int)] ++ rowsOf tmA (L.drop 0)) rfl HA8.out HO89.out.1 HR9.out (lit_ones _) (by unfold maxLen; omega) (by omega) HS9.out ?_; intro v10 w10 hown10 hgrow10 _; have HO10 := Lib.hid hown10; have HBN10 : Hid (Below w8.heap.size w8 w10) := HBN9.out.grown hgrow10 HS9.out fun g hg => (HO9.out.lt g hg).1; clear hown10 hgrow10))
            go_roundw
            case rel => exact ⟨0 + 1, by omega, by go_num, Lib.hid (by
              show World.ownsRow _ _ _ _ _ _ _
              rw [HSS.out, HNL.out, HRX.out, HXT.out]
              have := ownk_base HO10.out HB8.out.size
              rwa [show 0 + (1 + 0) = 0 + 1 from by omega] at this), Lib.hid (HB8.out.trans (HBN10.out.mono HB8.out.size))⟩
            case measure => simp [intOf]; omega
          · have HNL : Hid (insT x L = L.take 0 ++ x :: L.drop 0) := ins_at HSD.out (by rw [HSL2.out]; exact hk) (fun j y hj hy => by rw [HZ.out]; exact HHI.out j y hj hy) (fun y h hy => by rw [HZ.out]; exact HLO.out y h hy)
            have HWA := Lib.hid (HBW.out.trans (HBA.out.mono HBW.out.size))
            have HOA := Lib.hid (ownk_below HOW.out HBA.out (Nat.le_refl _))
            have HXA := Lib.hid (old_below HXW.out HBA.out (row_lt HXW.out))
            obtain ⟨b0, b1⟩ := two_cells HXA.out
            have hc0 : wa.cell? (ad.add (i * 2)) = some (.int .i64 x.id) := by
              have := HKA.out wa HWA.out 0 (.int .i64 x.id) (by rw [HXT.out]; rfl)
              rwa [add_twice, Nat.add_zero] at this
            have hc1 : wa.cell? ⟨(ad.add (i * 2)).block, (ad.add (i * 2)).off + 1, none⟩ = some (.int .u64 (z : Int)) := HKA.out wa HWA.out 1 _ (by rw [HXT.out]; rfl)
            obtain ⟨i0, q0, q1, q2, q3⟩ := info_tm2
            have hki : (0 : Int) ≤ (i : Int) := by omega
            have hki2 : 0 ≤ i := by omega
            have HLIT : Hid ((wa.drew.alloc (.cells #[.int .i64 x.id, .int .u64 (z : Int)] 53)).ownsRow w1.heap.size 53 2 (.slice (some ⟨wa.heap.size, 0, none⟩) 1 1) 1 [.int .i64 x.id, .int .u64 (z : Int)]) := ⟨rfl, .inr ⟨wa.heap.size, 1, _, rfl, HWA.out.size, heap_alloc_new wa.drew _, Nat.le_refl _, by unfold maxLen; omega, rfl, rfl⟩⟩
            have HBS : Hid (w1.heap.size ≤ (wa.drew.alloc (.cells #[.int .i64 x.id, .int .u64 (z : Int)] 53)).heap.size) := by
              show _ ≤ _
              have := HWA.out.size
              rw [World.size_alloc]
              exact Nat.le_succ_of_le this
            have HLD : Hid ((rowsOf tmA (L.drop 0)).length = (i - 0) * 2) := by show _ = _; rw [rows_length tmE, List.length_drop, HSL2.out]
            have HLT : Hid ((rowsOf tmA (L.take 0)).length = 0 * 2) := by show _ = _; rw [rows_length tmE, List.length_take, HSL2.out]; omega
            have HRD : Hid (Rd (wa.drew.alloc (.cells #[.int .i64 x.id, .int .u64 (z : Int)] 53)) 0 wa.heap.size (some la) (rowsOf tmA (L.drop 0))) := by
              have := ((((Tr.own HOA.out).rd.wide (Nat.zero_le _) (Nat.le_refl _)).drew).alloc (Nat.le_refl _) (.cells #[.int .i64 x.id, .int .u64 (z : Int)] 53))
              rw [List.drop_zero]
              exact this
            go_wp2
            go_region_law (refine step_append_rdk rfl (.tmp 57) (.tmp 60) 25 rfl w1.heap.size 53 i0 _ 2 16 Try.underlying25 q0 q1 q2 q3 rfl (by decide) (.slice (some ⟨wa.heap.size, 0, none⟩) 1 1) 1 [.int .i64 x.id, .int .u64 (z : Int)] (by simp [Act.eval]) HLIT.out (some la) i c5 (rowsOf tmA (L.drop 0)) (by simp [Act.eval, *]) (fun h => by cases h) (by rw [HLD.out] <;> omega) HRD.out (rows_ones tmE _) (by unfold maxLen; omega) (by omega) HBS.out ?_; intro v8 w8 hown8 hgrow8 _)
            have HB8 : Hid (Below w1.heap.size w1 w8) := ((HWA.out.drew).alloc HWA.out.size _).grown hgrow8 HBS.out fun g hg => by
              simp [Value.ownBlock] at hg
              rw [← hg]
              exact HWA.out.size
            have HO8 : Hid (w8.ownsRow w1.heap.size 53 2 v8 (1 + i) ([.int .i64 x.id, .int .u64 (z : Int)] ++ rowsOf tmA (L.drop 0))) := hown8
            have HOL : Hid (w8.ownsRow w1.heap.size 53 2 (.slice (some la) i c5) i (rowsOf tmA L)) := own_lit_grown HOA.out hgrow8
            clear hown8 hgrow8 b0 b1 hc0 hc1
            obtain ⟨A8, c8, rfl, h8c, hc8, hA8⟩ := ownk_form HO8.out
            have hc8b : c8 ≤ 9223372036854775807 := by unfold maxLen at hc8; omega
            have HA8 := Lib.hid hA8
            clear hc8 hA8
            have HEW := Lib.hid (own_empty w8 53 2)
            have HRT : Hid (Rd (w8.alloc (.cells #[] 53)) 0 w8.heap.size (some la) (rowsOf tmA (L.take 0))) := by
              have := ((((Tr.own HOL.out).rd.wide (Nat.zero_le _) (Nat.le_refl _))).alloc (Nat.le_refl _) (.cells #[] 53)).take (0 * 2)
              rw [rows_take tmE] at this
              exact this
            go_wp2_with (first | (at_builtin; refine wpList_append_rdk rfl _ _ 25 rfl w8.heap.size 53 i0 _ 2 16 Try.underlying25 q0 q1 q2 q3 rfl (by decide) (.slice (some ⟨w8.heap.size, 0, none⟩) 0 0) 0 [] rfl HEW.out (some la) 0 c5 (rowsOf tmA (L.take 0)) rfl (fun h => by cases h) HLT.out HRT.out (rows_ones tmE _) (by unfold maxLen; omega) (by omega) (by simp) ?_; intro v9 w9 hown9 hgrow9 _; rw [List.nil_append, Nat.zero_add] at hown9; have HO9 := Lib.hid hown9; have HBN9 : Hid (Below w8.heap.size w8 w9) := ((Below.refl _ _).alloc (Nat.le_refl _) _).grown hgrow9 (by simp) fun g hg => (HEW.out.lt g hg).1; clear hown9 hgrow9; have HS9 := Lib.hid HBN9.out.size; have HO89 := Lib.hid (ownk_below HO8.out HBN9.out (Nat.le_refl _)); have HR9 : Hid (Rd w9 w1.heap.size w9.heap.size A8 ([.int .i64 x.id, .int .u64 (z : Int)] ++ rowsOf tmA (L.drop 0))) := ownk_rd HO89.out) | (at_builtin; refine wpList_append_rdk rfl _ _ 25 rfl w8.heap.size 53 i0 _ 2 16 Try.underlying25 q0 q1 q2 q3 rfl (by decide) v9 0 (rowsOf tmA (L.take 0)) rfl HO9.out A8 (1 + i) c8 ([.int .i64 x.id, .int .u64 (z : Int)] ++ rowsOf tmA (L.drop 0)) rfl HA8.out HO89.out.1 HR9.out (lit_ones _) (by unfold maxLen; omega) (by omega) HS9.out ?_; intro v10 w10 hown10 hgrow10 _; have HO10 := Lib.hid hown10; have HBN10 : Hid (Below w8.heap.size w8 w10) := HBN9.out.grown hgrow10 HS9.out fun g hg => (HO9.out.lt g hg).1; clear hown10 hgrow10))
            go_roundw
            case rel => exact ⟨i + 1, by omega, by go_num, Lib.hid (by
              show World.ownsRow _ _ _ _ _ _ _
              rw [HSS.out, HNL.out, HRX.out, HXT.out]
              have := ownk_base HO10.out HB8.out.size
              rwa [show 0 + (1 + i) = i + 1 from by omega] at this), Lib.hid (HB8.out.trans (HBN10.out.mono HB8.out.size))⟩
            case measure => simp [intOf]; omega
        · obtain ⟨k1, hk1⟩ : ∃ k1, k = k1 + 1 := ⟨k - 1, by omega⟩
          obtain ⟨y0, hy⟩ : ∃ y, L[k1]? = some y := ⟨_, List.getElem?_eq_getElem (by rw [HSL2.out]; omega)⟩
          have HY0 := Lib.hid hy
          obtain ⟨ld, rfl, hKL⟩ := el_all tmE (K := L) ((Tr.own (ownk_below HOW.out HBI.out (Nat.le_refl _))).rd.wide (Nat.zero_le _) (Nat.le_refl _)) (by omega) hy
          obtain ⟨y, hyy⟩ : ∃ y, y0.due = y := ⟨_, rfl⟩
          have HYD := Lib.hid hyy
          have KL : Hid (∀ w', Reg wr w' → w'.cell? ((ld.add (k1 * 2)).add 1) = some (.int .u64 (y : Int))) := fun w' hr => by
            have := hKL w' (reg_below hr) 1 _ (tmA_due y0)
            rwa [hyy] at this
          have hsub : (k : Int) - 1 = (k1 : Int) := by omega
          have hk10 : (0 : Int) ≤ (k1 : Int) := by omega
          have hk1i : (k1 : Int) < (i : Int) := by omega
          have hk1i2 : k1 < i := by omega
          have hkp : (0 : Int) < (k : Int) := by omega
          have HK1 := Lib.hid hk1
          clear hy hKL hyy hk1
          by_cases hzy : z < y
          · have HHI2 : Hid (∀ j x, k1 ≤ j → L[j]? = some x → z < x.due) := fun j x hj hx => by
              by_cases hjk : j = k1
              · subst hjk
                rw [HY0.out] at hx
                injection hx with hx
                rw [← hx, HYD.out]
                exact hzy
              · exact HHI.out j x (by have := HK1.out; omega) hx
            have hzyi : (z : Int) < (y : Int) := by omega
            go_upto_region 8 with (fail)
            refine wp_region_quiet_below (by kernel_rfl) (by kernel_rfl) ?_
            (first | go_big_quiet_step (fail) | quiet_step (fail))
            (first | go_big_quiet_step (fail) | quiet_step (fail))
            (first | go_big_quiet_step (fail) | quiet_step (fail))
            (first | go_big_quiet_step (fail) | quiet_step (fail))
            (first | go_big_quiet_step (fail) | quiet_step (fail))
            (first | go_big_quiet_step (fail) | quiet_step (fail))
            (first | go_big_quiet_step (fail) | quiet_step (fail))
            (first | go_big_quiet_step (fail) | quiet_step (fail))
            (refine wpQuiet_step (fun K hK => ?_); refine quiet_load_cell (by kernel_rfl) 22 _ rfl ((ld.add (k1 * 2)).add 1) (by first | rfl | (simp [Act.eval, Addr.add_mid])) (.int .u64 (y : Int)) _ KL.out Try.underlying22 rfl ?_; refine hK _ ?_; clear hK K; go_frame)
            (first | go_big_quiet_step (fail) | quiet_step (fail))
            (refine wpQuiet_step (fun K hK => ?_); refine quiet_load_cell (by kernel_rfl) 25 _ rfl ((⟨w.heap.size, 0, none⟩ : Addr).add 1) (by first | rfl | (simp [Act.eval, Addr.add_mid])) (.slice (some ad) tn cs) _ KX1.out Try.underlying25 rfl ?_; refine hK _ ?_; clear hK K; go_frame)
            (first | go_big_quiet_step (fail) | quiet_step (fail))
            (first | go_big_quiet_step (fail) | quiet_step (fail))
            (first | go_big_quiet_step (fail) | quiet_step (fail))
            (refine wpQuiet_step (fun K hK => ?_); refine quiet_load_cell (by kernel_rfl) 22 _ rfl ((ad.add (i * 2)).add 1) (by first | rfl | (simp [Act.eval, Addr.add_mid])) (.int .u64 (z : Int)) _ KA1.out Try.underlying22 rfl ?_; refine hK _ ?_; clear hK K; go_frame)
            (first | go_big_quiet_step (fail) | quiet_step (fail))
            (first | go_big_quiet_step (fail) | quiet_step (fail))
            refine wpQuiet_nil ?_
            intro w9 hw9
            obtain ⟨⟨dq, osq⟩, rfl⟩ := hw9
            have HBA := Lib.hid ((HBI.out).trans ((below_regrown wr dq osq).mono (HBI.out).size))
            generalize Sort.grow (redrawn wr dq) osq = wa at *
            go_wp2
            go_roundw
            case rel => exact ⟨k1, by omega, by go_num, HHI2, HBA⟩
            case measure => have := HK1.out; simp [intOf]; omega
          · have hzyi : ¬ (z : Int) < (y : Int) := by omega
            have HLO : Hid (∀ x, 0 < k → L[k - 1]? = some x → x.due ≤ z) := fun x _ hx => by
              rw [show k - 1 = k1 from by have := HK1.out; omega, HY0.out] at hx
              injection hx with hx
              rw [← hx, HYD.out]
              omega
            go_upto_region 8 with (fail)
            refine wp_region_quiet_below (by kernel_rfl) (by kernel_rfl) ?_
            (first | go_big_quiet_step (fail) | quiet_step (fail))
            (first | go_big_quiet_step (fail) | quiet_step (fail))
            (first | go_big_quiet_step (fail) | quiet_step (fail))
            (first | go_big_quiet_step (fail) | quiet_step (fail))
            (first | go_big_quiet_step (fail) | quiet_step (fail))
            (first | go_big_quiet_step (fail) | quiet_step (fail))
            (first | go_big_quiet_step (fail) | quiet_step (fail))
            (first | go_big_quiet_step (fail) | quiet_step (fail))
            (refine wpQuiet_step (fun K hK => ?_); refine quiet_load_cell (by kernel_rfl) 22 _ rfl ((ld.add (k1 * 2)).add 1) (by first | rfl | (simp [Act.eval, Addr.add_mid])) (.int .u64 (y : Int)) _ KL.out Try.underlying22 rfl ?_; refine hK _ ?_; clear hK K; go_frame)
            (first | go_big_quiet_step (fail) | quiet_step (fail))
            (refine wpQuiet_step (fun K hK => ?_); refine quiet_load_cell (by kernel_rfl) 25 _ rfl ((⟨w.heap.size, 0, none⟩ : Addr).add 1) (by first | rfl | (simp [Act.eval, Addr.add_mid])) (.slice (some ad) tn cs) _ KX1.out Try.underlying25 rfl ?_; refine hK _ ?_; clear hK K; go_frame)
            (first | go_big_quiet_step (fail) | quiet_step (fail))
            (first | go_big_quiet_step (fail) | quiet_step (fail))
            (first | go_big_quiet_step (fail) | quiet_step (fail))
            (refine wpQuiet_step (fun K hK => ?_); refine quiet_load_cell (by kernel_rfl) 22 _ rfl ((ad.add (i * 2)).add 1) (by first | rfl | (simp [Act.eval, Addr.add_mid])) (.int .u64 (z : Int)) _ KA1.out Try.underlying22 rfl ?_; refine hK _ ?_; clear hK K; go_frame)
            (first | go_big_quiet_step (fail) | quiet_step (fail))
            (first | go_big_quiet_step (fail) | quiet_step (fail))
            refine wpQuiet_nil ?_
            intro w9 hw9
            obtain ⟨⟨dq, osq⟩, rfl⟩ := hw9
            have HBA := Lib.hid ((HBI.out).trans ((below_regrown wr dq osq).mono (HBI.out).size))
            generalize Sort.grow (redrawn wr dq) osq = wa at *
            have HNL : Hid (insT x L = L.take k ++ x :: L.drop k) := ins_at HSD.out (by rw [HSL2.out]; exact hk) (fun j y hj hy => by rw [HZ.out]; exact HHI.out j y hj hy) (fun y h hy => by rw [HZ.out]; exact HLO.out y h hy)
            have HWA := Lib.hid (HBW.out.trans (HBA.out.mono HBW.out.size))
            have HOA := Lib.hid (ownk_below HOW.out HBA.out (Nat.le_refl _))
            have HXA := Lib.hid (old_below HXW.out HBA.out (row_lt HXW.out))
            obtain ⟨b0, b1⟩ := two_cells HXA.out
            have hc0 : wa.cell? (ad.add (i * 2)) = some (.int .i64 x.id) := by
              have := HKA.out wa HWA.out 0 (.int .i64 x.id) (by rw [HXT.out]; rfl)
              rwa [add_twice, Nat.add_zero] at this
            have hc1 : wa.cell? ⟨(ad.add (i * 2)).block, (ad.add (i * 2)).off + 1, none⟩ = some (.int .u64 (z : Int)) := HKA.out wa HWA.out 1 _ (by rw [HXT.out]; rfl)
            obtain ⟨i0, q0, q1, q2, q3⟩ := info_tm2
            have hki : (k : Int) ≤ (i : Int) := by omega
            have hki2 : k ≤ i := by omega
            have HLIT : Hid ((wa.drew.alloc (.cells #[.int .i64 x.id, .int .u64 (z : Int)] 53)).ownsRow w1.heap.size 53 2 (.slice (some ⟨wa.heap.size, 0, none⟩) 1 1) 1 [.int .i64 x.id, .int .u64 (z : Int)]) := ⟨rfl, .inr ⟨wa.heap.size, 1, _, rfl, HWA.out.size, heap_alloc_new wa.drew _, Nat.le_refl _, by unfold maxLen; omega, rfl, rfl⟩⟩
            have HBS : Hid (w1.heap.size ≤ (wa.drew.alloc (.cells #[.int .i64 x.id, .int .u64 (z : Int)] 53)).heap.size) := by
              show _ ≤ _
              have := HWA.out.size
              rw [World.size_alloc]
              exact Nat.le_succ_of_le this
            have HLD : Hid ((rowsOf tmA (L.drop k)).length = (i - k) * 2) := by show _ = _; rw [rows_length tmE, List.length_drop, HSL2.out]
            have HLT : Hid ((rowsOf tmA (L.take k)).length = k * 2) := by show _ = _; rw [rows_length tmE, List.length_take, HSL2.out]; omega
            by_cases hck : c5 = k
            · obtain rfl : i = k := by omega
              subst hck
              have HRD : Hid (Rd (wa.drew.alloc (.cells #[.int .i64 x.id, .int .u64 (z : Int)] 53)) 0 wa.heap.size (some ld) (rowsOf tmA (L.drop c5))) := by
                have h0 : rowsOf tmA (L.drop c5) = [] := by rw [List.drop_eq_nil_of_le (by rw [HSL2.out]; omega)]; rfl
                rw [h0]
                exact Rd.nil
              go_wp2
              go_region_law (refine step_append_rdk rfl (.tmp 57) (.tmp 60) 25 rfl w1.heap.size 53 i0 _ 2 16 Try.underlying25 q0 q1 q2 q3 rfl (by decide) (.slice (some ⟨wa.heap.size, 0, none⟩) 1 1) 1 [.int .i64 x.id, .int .u64 (z : Int)] (by simp [Act.eval]) HLIT.out (some ld) 0 0 (rowsOf tmA (L.drop c5)) (by simp [Act.eval, *]) (fun h => by cases h) (by rw [HLD.out] <;> omega) HRD.out (rows_ones tmE _) (by unfold maxLen; omega) (by omega) HBS.out ?_; intro v8 w8 hown8 hgrow8 _)
              have HB8 : Hid (Below w1.heap.size w1 w8) := ((HWA.out.drew).alloc HWA.out.size _).grown hgrow8 HBS.out fun g hg => by
                simp [Value.ownBlock] at hg
                rw [← hg]
                exact HWA.out.size
              have HO8 : Hid (w8.ownsRow w1.heap.size 53 2 v8 (1 + 0) ([.int .i64 x.id, .int .u64 (z : Int)] ++ rowsOf tmA (L.drop c5))) := hown8
              have HOL : Hid (w8.ownsRow w1.heap.size 53 2 (.slice (some ld) c5 c5) c5 (rowsOf tmA L)) := own_lit_grown HOA.out hgrow8
              clear hown8 hgrow8 b0 b1 hc0 hc1
              obtain ⟨A8, c8, rfl, h8c, hc8, hA8⟩ := ownk_form HO8.out
              have hc8b : c8 ≤ 9223372036854775807 := by unfold maxLen at hc8; omega
              have HA8 := Lib.hid hA8
              clear hc8 hA8
              have HEW := Lib.hid (own_empty w8 53 2)
              have HRT : Hid (Rd (w8.alloc (.cells #[] 53)) 0 w8.heap.size (some ld) (rowsOf tmA (L.take c5))) := by
                have := ((((Tr.own HOL.out).rd.wide (Nat.zero_le _) (Nat.le_refl _))).alloc (Nat.le_refl _) (.cells #[] 53)).take (c5 * 2)
                rw [rows_take tmE] at this
                exact this
              go_wp2_with (first | (at_builtin; refine wpList_append_rdk rfl _ _ 25 rfl w8.heap.size 53 i0 _ 2 16 Try.underlying25 q0 q1 q2 q3 rfl (by decide) (.slice (some ⟨w8.heap.size, 0, none⟩) 0 0) 0 [] rfl HEW.out (some ld) c5 c5 (rowsOf tmA (L.take c5)) rfl (fun h => by cases h) HLT.out HRT.out (rows_ones tmE _) (by unfold maxLen; omega) (by omega) (by simp) ?_; intro v9 w9 hown9 hgrow9 _; rw [List.nil_append, Nat.zero_add] at hown9; have HO9 := Lib.hid hown9; have HBN9 : Hid (Below w8.heap.size w8 w9) := ((Below.refl _ _).alloc (Nat.le_refl _) _).grown hgrow9 (by simp) fun g hg => (HEW.out.lt g hg).1; clear hown9 hgrow9; have HS9 := Lib.hid HBN9.out.size; have HO89 := Lib.hid (ownk_below HO8.out HBN9.out (Nat.le_refl _)); have HR9 : Hid (Rd w9 w1.heap.size w9.heap.size A8 ([.int .i64 x.id, .int .u64 (z : Int)] ++ rowsOf tmA (L.drop c5))) := ownk_rd HO89.out) | (at_builtin; refine wpList_append_rdk rfl _ _ 25 rfl w8.heap.size 53 i0 _ 2 16 Try.underlying25 q0 q1 q2 q3 rfl (by decide) v9 c5 (rowsOf tmA (L.take c5)) rfl HO9.out A8 (1 + 0) c8 ([.int .i64 x.id, .int .u64 (z : Int)] ++ rowsOf tmA (L.drop c5)) rfl HA8.out HO89.out.1 HR9.out (lit_ones _) (by unfold maxLen; omega) (by omega) HS9.out ?_; intro v10 w10 hown10 hgrow10 _; have HO10 := Lib.hid hown10; have HBN10 : Hid (Below w8.heap.size w8 w10) := HBN9.out.grown hgrow10 HS9.out fun g hg => (HO9.out.lt g hg).1; clear hown10 hgrow10))
              go_roundw
              case rel => exact ⟨c5 + 1, by omega, by go_num, Lib.hid (by
                show World.ownsRow _ _ _ _ _ _ _
                rw [HSS.out, HNL.out, HRX.out, HXT.out]
                have := ownk_base HO10.out HB8.out.size
                rwa [show c5 + (1 + 0) = c5 + 1 from by omega] at this), Lib.hid (HB8.out.trans (HBN10.out.mono HB8.out.size))⟩
              case measure => simp [intOf]; omega
            · have HRD : Hid (Rd (wa.drew.alloc (.cells #[.int .i64 x.id, .int .u64 (z : Int)] 53)) 0 wa.heap.size (some (ld.add (k * 2))) (rowsOf tmA (L.drop k))) := by
                have := ((((Tr.own HOA.out).rd.wide (Nat.zero_le _) (Nat.le_refl _)).drew).alloc (Nat.le_refl _) (.cells #[.int .i64 x.id, .int .u64 (z : Int)] 53)).drop (k * 2)
                rw [rows_drop tmE] at this
                exact this
              go_wp2
              go_region_law (refine step_append_rdk rfl (.tmp 57) (.tmp 60) 25 rfl w1.heap.size 53 i0 _ 2 16 Try.underlying25 q0 q1 q2 q3 rfl (by decide) (.slice (some ⟨wa.heap.size, 0, none⟩) 1 1) 1 [.int .i64 x.id, .int .u64 (z : Int)] (by simp [Act.eval]) HLIT.out (some (ld.add (k * 2))) (i - k) (c5 - k) (rowsOf tmA (L.drop k)) (by simp [Act.eval, *]) (fun h => by cases h) (by rw [HLD.out] <;> omega) HRD.out (rows_ones tmE _) (by unfold maxLen; omega) (by omega) HBS.out ?_; intro v8 w8 hown8 hgrow8 _)
              have HB8 : Hid (Below w1.heap.size w1 w8) := ((HWA.out.drew).alloc HWA.out.size _).grown hgrow8 HBS.out fun g hg => by
                simp [Value.ownBlock] at hg
                rw [← hg]
                exact HWA.out.size
              have HO8 : Hid (w8.ownsRow w1.heap.size 53 2 v8 (1 + (i - k)) ([.int .i64 x.id, .int .u64 (z : Int)] ++ rowsOf tmA (L.drop k))) := hown8
              have HOL : Hid (w8.ownsRow w1.heap.size 53 2 (.slice (some ld) i c5) i (rowsOf tmA L)) := own_lit_grown HOA.out hgrow8
              clear hown8 hgrow8 b0 b1 hc0 hc1
              obtain ⟨A8, c8, rfl, h8c, hc8, hA8⟩ := ownk_form HO8.out
              have hc8b : c8 ≤ 9223372036854775807 := by unfold maxLen at hc8; omega
              have HA8 := Lib.hid hA8
              clear hc8 hA8
              have HEW := Lib.hid (own_empty w8 53 2)
              have HRT : Hid (Rd (w8.alloc (.cells #[] 53)) 0 w8.heap.size (some ld) (rowsOf tmA (L.take k))) := by
                have := ((((Tr.own HOL.out).rd.wide (Nat.zero_le _) (Nat.le_refl _))).alloc (Nat.le_refl _) (.cells #[] 53)).take (k * 2)
                rw [rows_take tmE] at this
                exact this
              go_wp2_with (first | (at_builtin; refine wpList_append_rdk rfl _ _ 25 rfl w8.heap.size 53 i0 _ 2 16 Try.underlying25 q0 q1 q2 q3 rfl (by decide) (.slice (some ⟨w8.heap.size, 0, none⟩) 0 0) 0 [] rfl HEW.out (some ld) k c5 (rowsOf tmA (L.take k)) rfl (fun h => by cases h) HLT.out HRT.out (rows_ones tmE _) (by unfold maxLen; omega) (by omega) (by simp) ?_; intro v9 w9 hown9 hgrow9 _; rw [List.nil_append, Nat.zero_add] at hown9; have HO9 := Lib.hid hown9; have HBN9 : Hid (Below w8.heap.size w8 w9) := ((Below.refl _ _).alloc (Nat.le_refl _) _).grown hgrow9 (by simp) fun g hg => (HEW.out.lt g hg).1; clear hown9 hgrow9; have HS9 := Lib.hid HBN9.out.size; have HO89 := Lib.hid (ownk_below HO8.out HBN9.out (Nat.le_refl _)); have HR9 : Hid (Rd w9 w1.heap.size w9.heap.size A8 ([.int .i64 x.id, .int .u64 (z : Int)] ++ rowsOf tmA (L.drop k))) := ownk_rd HO89.out) | (at_builtin; refine wpList_append_rdk rfl _ _ 25 rfl w8.heap.size 53 i0 _ 2 16 Try.underlying25 q0 q1 q2 q3 rfl (by decide) v9 k (rowsOf tmA (L.take k)) rfl HO9.out A8 (1 + (i - k)) c8 ([.int .i64 x.id, .int .u64 (z : Int)] ++ rowsOf tmA (L.drop k)) rfl HA8.out HO89.out.1 HR9.out (lit_ones _) (by unfold maxLen; omega) (by omega) HS9.out ?_; intro v10 w10 hown10 hgrow10 _; have HO10 := Lib.hid hown10; have HBN10 : Hid (Below w8.heap.size w8 w10) := HBN9.out.grown hgrow10 HS9.out fun g hg => (HO9.out.lt g hg).1; clear hown10 hgrow10))
              go_roundw
              case rel => exact ⟨i + 1, by omega, by go_num, Lib.hid (by
                show World.ownsRow _ _ _ _ _ _ _
                rw [HSS.out, HNL.out, HRX.out, HXT.out]
                have := ownk_base HO10.out HB8.out.size
                rwa [show k + (1 + (i - k)) = i + 1 from by omega] at this), Lib.hid (HB8.out.trans (HBN10.out.mono HB8.out.size))⟩
              case measure => simp [intOf]; omega
    · obtain rfl : i = tn := by omega
      have HTK : Hid (S.take i = S) := List.take_of_length_le (Nat.le_of_eq HSL.out)
      rw [HTK.out] at HOW
      rw [HSL.out] at HSO
      obtain ⟨L, hL⟩ : ∃ L, sortT S = L := ⟨_, rfl⟩
      have HLE := Lib.hid hL
      rw [hL] at HOW HSO
      clear hL
      obtain ⟨A5, c5, rfl, h5c, hc5, hA5⟩ := ownk_form HOW.out
      have hc5b : c5 ≤ 9223372036854775807 := by unfold maxLen at hc5; omega
      clear hc5 hA5
      rename World => wo
      go_wp2
      clear b0 b1
      go_loopw [9] (fun t9 wr => ∃ k : Nat, k ≤ i ∧ t9 = .int .i64 (k : Int) ∧ Hid (∀ j, j < k → L[j]? = T[j]?) ∧ Hid (Below wo.heap.size wo wr)) (fun t9 _ => i - (intOf t9).toNat)
      case atStart => exact ⟨0, Nat.zero_le _, rfl, Lib.hid (fun j hj => by omega), Lib.hid (Below.refl _ _)⟩
      case round =>
        obtain ⟨k, hk, rfl, HOK, HBI⟩ := hrel
        have HBV := Lib.hid (HBW.out.trans (HBI.out.mono HBW.out.size))
        have HBZ := Lib.hid (HB1.out.trans (HBV.out.mono HB1.out.size))
        by_cases hlt2 : k < i
        · obtain ⟨x, hx⟩ : ∃ x, L[k]? = some x := ⟨_, List.getElem?_eq_getElem (by rw [HSO.out]; exact hlt2)⟩
          obtain ⟨y, hy⟩ : ∃ y, T[k]? = some y := ⟨_, List.getElem?_eq_getElem (by rw [HTL.out]; exact hlt2)⟩
          have HX := Lib.hid hx
          have HY := Lib.hid hy
          obtain ⟨ld, rfl, hKL⟩ := el_all tmE (K := L) ((Tr.own (ownk_below HOW.out HBI.out (Nat.le_refl _))).rd.wide (Nat.zero_le _) (Nat.le_refl _)) (by omega) hx
          obtain ⟨td, rfl, hKT⟩ := el_all tmE (Rs.below HTT.out HBV.out (Nat.le_refl _)) (by omega) hy
          have KL : Hid (∀ w', Reg wr w' → ∀ (j : Nat) v, (tmA x)[j]? = some v → w'.cell? ((ld.add (k * 2)).add j) = some v) := fun w' hr j v hv => hKL w' (reg_below hr) j v hv
          have KT : Hid (∀ w', Reg wr w' → ∀ (j : Nat) v, (tmA y)[j]? = some v → w'.cell? ((td.add (k * 2)).add j) = some v) := fun w' hr j v hv => hKT w' (reg_below hr) j v hv
          have HYI := Lib.hid (old_below HYW.out HBI.out (row_lt HYW.out))
          have KY1 : Hid (∀ w', Reg wr w' → w'.cell? ((⟨g, 0, none⟩ : Addr).add 1) = some (.slice (some td) i ct)) := fun w' hr => (two_cells (old_below HYI.out (reg_below hr) (row_lt HYI.out))).2
          have heq : ∀ w, (Op.equalIn 10000 53 (.agg (tmA x)) (.agg (tmA y))).run Try.prog w = .ok (decide (x = y)) w := eq_tm 9998 x y
          have HSX : Hid ((tmA x).size = 2) := tmE.size x
          have HSY : Hid ((tmA y).size = 2) := tmE.size y
          obtain ⟨CX, hCX⟩ : ∃ CX, tmA x = CX := ⟨_, rfl⟩
          obtain ⟨CY, hCY⟩ : ∃ CY, tmA y = CY := ⟨_, rfl⟩
          rw [hCX] at KL heq HSX
          rw [hCY] at KT heq HSY
          clear hx hy hKL hKT hCX hCY
          by_cases hxy : x = y
          · have HOK2 : Hid (∀ j, j < k + 1 → L[j]? = T[j]?) := fun j hj => by
              by_cases hjk : j < k
              · exact HOK.out j hjk
              · obtain rfl : j = k := by omega
                rw [HX.out, HY.out, hxy]
            rw [decide_eq_true hxy] at heq
            clear hxy
            go_upto_region 15 with (fail)
            refine wp_region_quiet_below (by kernel_rfl) (by kernel_rfl) ?_
            (first | go_big_quiet_step (fail) | quiet_step (fail))
            (first | go_big_quiet_step (fail) | quiet_step (fail))
            (first | go_big_quiet_step (fail) | quiet_step (fail))
            (refine wpQuiet_step (fun K hK => ?_); refine quiet_load_at (by kernel_rfl) 53 _ rfl (ld.add (k * 2)) (by first | rfl | (simp [Act.eval, Addr.add_mid])) CX _ KL.out Try.underlying53 rfl (by rw [HSX.out]; kernel_rfl) ?_; refine hK _ ?_; clear hK K; go_frame)
            (first | go_big_quiet_step (fail) | quiet_step (fail))
            (refine wpQuiet_step (fun K hK => ?_); refine quiet_load_cell (by kernel_rfl) 25 _ rfl ((⟨g, 0, none⟩ : Addr).add 1) (by first | rfl | (simp [Act.eval, Addr.add_mid])) (.slice (some td) i ct) _ KY1.out Try.underlying25 rfl ?_; refine hK _ ?_; clear hK K; go_frame)
            (first | go_big_quiet_step (fail) | quiet_step (fail))
            (first | go_big_quiet_step (fail) | quiet_step (fail))
            (refine wpQuiet_step (fun K hK => ?_); refine quiet_load_at (by kernel_rfl) 53 _ rfl (td.add (k * 2)) (by first | rfl | (simp [Act.eval, Addr.add_mid])) CY _ KT.out Try.underlying53 rfl (by rw [HSY.out]; kernel_rfl) ?_; refine hK _ ?_; clear hK K; go_frame)
            (first | go_big_quiet_step (fail) | quiet_step (fail))
            refine wpQuiet_nil ?_
            intro w9 hw9
            obtain ⟨⟨dq, osq⟩, rfl⟩ := hw9
            have HB9 := Lib.hid ((HBI.out).trans ((below_regrown wr dq osq).mono (HBI.out).size))
            generalize Sort.grow (redrawn wr dq) osq = w9b at *
            go_wp2
            go_roundw
            case rel => exact ⟨k + 1, by omega, by go_num, HOK2, HB9⟩
            case measure => simp [intOf]; omega
          · have HV : Hid (¬ T = L) := fun e => by
              have := HX.out
              rw [← e, HY.out] at this
              injection this with this
              exact hxy this.symm
            rw [decide_eq_false hxy] at heq
            clear hxy
            go_upto_region 15 with (fail)
            refine wp_region_quiet_below (by kernel_rfl) (by kernel_rfl) ?_
            (first | go_big_quiet_step (fail) | quiet_step (fail))
            (first | go_big_quiet_step (fail) | quiet_step (fail))
            (first | go_big_quiet_step (fail) | quiet_step (fail))
            (refine wpQuiet_step (fun K hK => ?_); refine quiet_load_at (by kernel_rfl) 53 _ rfl (ld.add (k * 2)) (by first | rfl | (simp [Act.eval, Addr.add_mid])) CX _ KL.out Try.underlying53 rfl (by rw [HSX.out]; kernel_rfl) ?_; refine hK _ ?_; clear hK K; go_frame)
            (first | go_big_quiet_step (fail) | quiet_step (fail))
            (refine wpQuiet_step (fun K hK => ?_); refine quiet_load_cell (by kernel_rfl) 25 _ rfl ((⟨g, 0, none⟩ : Addr).add 1) (by first | rfl | (simp [Act.eval, Addr.add_mid])) (.slice (some td) i ct) _ KY1.out Try.underlying25 rfl ?_; refine hK _ ?_; clear hK K; go_frame)
            (first | go_big_quiet_step (fail) | quiet_step (fail))
            (first | go_big_quiet_step (fail) | quiet_step (fail))
            (refine wpQuiet_step (fun K hK => ?_); refine quiet_load_at (by kernel_rfl) 53 _ rfl (td.add (k * 2)) (by first | rfl | (simp [Act.eval, Addr.add_mid])) CY _ KT.out Try.underlying53 rfl (by rw [HSY.out]; kernel_rfl) ?_; refine hK _ ?_; clear hK K; go_frame)
            (first | go_big_quiet_step (fail) | quiet_step (fail))
            refine wpQuiet_nil ?_
            intro w9 hw9
            obtain ⟨⟨dq, osq⟩, rfl⟩ := hw9
            have HB9 := Lib.hid ((HBI.out).trans ((below_regrown wr dq osq).mono (HBI.out).size))
            generalize Sort.grow (redrawn wr dq) osq = w9b at *
            go_wp2
            go_ret
            exact ⟨congrArg (fun b => Ending.returned (Value.bool b)) (decide_eq_false (fun h => HV.out (h.2.trans HLE.out))).symm, HB1.out.trans ((HBW.out.trans (HB9.out.mono HBW.out.size)).mono HB1.out.size)⟩
        · obtain rfl : k = i := by omega
          have HV : Hid (T = L) := (List.ext_getElem? fun j => by
            by_cases hj : j < k
            · exact (HOK.out j hj).symm
            · rw [List.getElem?_eq_none (by rw [HTL.out]; omega), List.getElem?_eq_none (by rw [HSO.out]; omega)])
          go_wp2
          go_ret
          exact ⟨congrArg (fun b => Ending.returned (Value.bool b)) (decide_eq_true ⟨trivial, HV.out.trans HLE.out.symm⟩).symm, HBZ.out⟩
end Go.Proofs.Ytljochpomgjjeaa
