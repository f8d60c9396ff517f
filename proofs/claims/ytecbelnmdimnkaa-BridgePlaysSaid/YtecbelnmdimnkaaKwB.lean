/-
  The document's Known: of the cards seen, the last, each once. No condition but that they are few.
-/
import Derived.Test.YtecbelnmdimnkaaFgM
import Derived.Test.YtecbelnmdimnkaaOuB
namespace Go.Proofs.Ytecbelnmdimnkaa
open Go.RowKit

theorem ddf_app : ∀ (A B : List Ln), ∃ r, ddf (A ++ B) = ddf A ++ r
  | [], B => ⟨ddf B, rfl⟩
  | y :: A, B => by
    obtain ⟨r, hr⟩ := ddf_app A B
    refine ⟨r.filter (notM y.m), ?_⟩
    show y :: (ddf (A ++ B)).filter (notM y.m) = _
    rw [hr, List.filter_append]
    rfl
theorem ddf_has {y : Ln} : ∀ {A : List Ln}, y ∈ A → ∃ z ∈ ddf A, z.m = y.m
  | [], h => by cases h
  | x :: A, h => by
    by_cases e : y.m = x.m
    · exact ⟨x, List.mem_cons_self .., e.symm⟩
    · rcases List.mem_cons.1 h with rfl | h
      · exact absurd rfl e
      · obtain ⟨z, hz, hm⟩ := ddf_has h
        exact ⟨z, List.mem_cons_of_mem _ (List.mem_filter.2 ⟨hz, (notM_iff _ _).2 (by rw [hm]; exact e)⟩), hm⟩
theorem rev_at {S : List Ln} {i j : Nat} {x : Ln} (hx : S[i]? = some x) (h : i + (j + 1) = S.length) : S.reverse.take (j + 1) = S.reverse.take j ++ [x] := by
  have hat : S.reverse[j]? = some x := by
    rw [List.getElem?_reverse (by omega), show S.length - 1 - j = i from by omega]
    exact hx
  have hj := (List.getElem?_eq_some_iff.1 hat).1
  rw [List.take_succ_eq_append_getElem hj, (List.getElem?_eq_some_iff.1 hat).2]
theorem kf_all {S U : List Ln} {j : Nat} (h : U.reverse = ddf (S.reverse.take j)) (hu : U.length ≤ 16) (hj : S.length ≤ j ∨ 16 ≤ U.length) : KF S = U := by
  have := kf_take S
  obtain ⟨r, hr⟩ := ddf_app (S.reverse.take j) (S.reverse.drop j)
  rw [List.take_append_drop] at hr
  rw [hr, ← h] at this
  rcases hj with hj | hj
  · have hd : S.reverse.drop j = [] := List.drop_eq_nil_of_le (by simpa using hj)
    have hr0 : r = [] := by
      have h2 : ddf S.reverse = ddf (S.reverse.take j) := by
        rw [List.take_of_length_le (by simpa using hj)]
      rw [hr] at h2
      simpa using h2
    rw [hr0, List.append_nil, List.take_of_length_le (by simpa using hu)] at this
    exact List.reverse_inj.1 this
  · rw [List.take_append_of_le_length (by simpa using hj), List.take_of_length_le (by simpa using hu)] at this
    exact List.reverse_inj.1 this
theorem any_is {a : Mac} {U : List Ln} {A : List Ln} (hU : U.reverse = ddf A) : U.any (isM a) = true ↔ ∃ y ∈ A, y.m = a := by
  rw [List.any_eq_true]
  constructor
  · rintro ⟨y, hy, h⟩
    have h1 : y ∈ ddf A := by rw [← hU]; exact List.mem_reverse.2 hy
    exact ⟨y, ddf_mem h1, by simpa [isM] using h⟩
  · rintro ⟨y, hy, rfl⟩
    obtain ⟨z, hz, hm⟩ := ddf_has hy
    rw [← hU] at hz
    exact ⟨z, List.mem_reverse.1 hz, by simp [isM, hm]⟩
theorem own_one7 {w : World} {B : Nat} (hB : B ≤ w.heap.size) (l : Ln) : (w.alloc (.cells (lnA l) 58)).ownsRow B 58 7 (.slice (some ⟨w.heap.size, 0, none⟩) 1 1) 1 (lnA l).toList :=
  ⟨by rw [Array.length_toList, lnA_size], .inr ⟨w.heap.size, 1, lnA l, rfl, hB, heap_alloc_new w _, Nat.le_refl _, by unfold maxLen; omega, by rw [lnA_size], by rw [List.take_of_length_le (by rw [Array.length_toList, lnA_size]; omega)]⟩⟩
theorem info_l7 : ∃ i0, Try.prog.info? 58 = some i0 ∧ i0.zero = some (.agg #[.int .u8 0, .int .u8 0, .int .u8 0, .int .u8 0, .int .u8 0, .int .u8 0, .int .i64 0]) ∧ i0.size = 7 ∧ i0.bytes = 16 := info_parts info_ln
set_option maxRecDepth 100000 in
set_option maxHeartbeats 8000000 in
theorem known_any (v : Value) (P : Nat) (S : List Ln) (w : World) (hv : BrT w v P S) (hl : S.length ≤ 1000) :
    Calls Try.prog 24 #[v] w fun e w' => ∃ v', e = .returned v' ∧ w'.ownsRow w.heap.size 58 7 v' (KF S).length (lns (KF S)) ∧ Below w.heap.size w w' := by
  obtain ⟨s, rfl, A, c, rfl, htr, hA, hnc, hcm⟩ := hv
  obtain ⟨n, hnn⟩ : ∃ n, S.length = n := ⟨_, rfl⟩
  rw [hnn] at hl hnc ⊢
  have hcm2 : c ≤ 9223372036854775807 := by unfold maxLen at hcm; omega
  obtain ⟨w1, hw1⟩ : ∃ w1, w.alloc (.cells #[.int .i64 (P : Int), .slice A n c] 32) = w1 := ⟨_, rfl⟩
  have HB1 : Hid (Below w.heap.size w w1) := by rw [← hw1]; exact (Below.refl _ _).alloc (Nat.le_refl _) _
  have HX1 : Hid (w1.heap[w.heap.size]? = some (.cells #[.int .i64 (P : Int), .slice A n c] 32 (0, 0))) := by rw [← hw1]; exact heap_alloc_new w _
  have HTR : Hid (Tr w1 0 58 A (lns S)) := htr.below HB1.out (Nat.le_refl _)
  have HW := Lib.hid hw1
  have HN := Lib.hid hnn
  obtain ⟨b, hb⟩ : ∃ b, w.heap.size = b := ⟨_, rfl⟩
  have HBB := Lib.hid hb
  obtain ⟨a0, a1⟩ := two_cells HX1.out
  clear hnn htr hw1 hA hcm
  go_enter Try.func24, Try.ntmps24
  go_upto_region 1 with (fail)
  change Code.wp _ _ _ _ (w.alloc (.cells #[.int .i64 (P : Int), .slice A n c] 32))
  rw [HW.out]
  clear HW
  rw [hb] at a0 a1
  clear hb
  go_wp2
  clear a0 a1
  go_loopw [3, 4] (fun t3 t4 wr => ∃ (j : Nat) (U : List Ln), j ≤ n ∧ t4 = .int .i64 ((n : Int) - 1 - (j : Int)) ∧ U.length ≤ 16 ∧ Hid (U.reverse = ddf (S.reverse.take j)) ∧ Hid (wr.ownsRow w1.heap.size 58 7 t3 U.length (lns U)) ∧ Hid (Below w1.heap.size w1 wr)) (fun _ t4 _ => (intOf t4 + 1).toNat)
  case atStart => exact ⟨0, [], Nat.zero_le _, by simp, Nat.zero_le _, Lib.hid rfl, World.ownsRow_nil _ _ _ _, Lib.hid (Below.refl _ _)⟩
  case round =>
    obtain ⟨j, U, hj, rfl, hu, HU, HOW, HBE⟩ := hrel
    generalize u3 = v3 at HOW ⊢
    obtain ⟨m, hm⟩ : ∃ m, U.length = m := ⟨_, rfl⟩
    rw [hm] at hu HOW
    have HM := Lib.hid hm
    clear hm
    obtain ⟨A3, c3, rfl, hmc, hcm3, hA3⟩ := ownk_form HOW.out
    have HA3 := Lib.hid hA3
    have hcm4 : c3 ≤ 9223372036854775807 := by unfold maxLen at hcm3; omega
    clear hcm3 hA3
    have HXR := Lib.hid (old_below HX1.out HBE.out (row_lt HX1.out))
    rw [HBB.out] at HXR
    by_cases hlt : j < n
    · obtain ⟨i, hi⟩ : ∃ i, i + (j + 1) = n := ⟨n - (j + 1), by omega⟩
      have hgi : (n : Int) - 1 - (j : Int) = (i : Int) := by omega
      have hi0 : (0 : Int) ≤ (i : Int) := by omega
      have hin : (i : Int) < (n : Int) := by omega
      have hi2 : i < n := by omega
      rw [hgi]
      by_cases h16 : m < 16
      · have h16b : (m : Int) < 16 := by omega
        obtain ⟨x, hx⟩ : ∃ x, S[i]? = some x := ⟨_, List.getElem?_eq_getElem (by rw [HN.out]; exact hi2)⟩
        obtain ⟨ad, rfl, -⟩ := ln_cells HTR.out hx
        have HTK := Lib.hid (rev_at (j := j) hx (by rw [HN.out]; exact hi))
        have HSX := Lib.hid hx
        clear hx hgi
        rename World => wo
        go_wp2
        go_loopw [5, 6] (fun t5 t6 wr => ∃ k : Nat, k ≤ m ∧ t6 = .int .i64 (k : Int) ∧ t5 = .bool ((U.take k).any (isM x.m)) ∧ Hid (Below wo.heap.size wo wr)) (fun _ t6 _ => m - (intOf t6).toNat)
        case atStart => exact ⟨0, Nat.zero_le _, rfl, by simp, Lib.hid (Below.refl _ _)⟩
        case round =>
          obtain ⟨k, hk, rfl, rfl, HBI⟩ := hrel
          by_cases hlt2 : k < m
          · obtain ⟨y, hy⟩ : ∃ y, U[k]? = some y := ⟨_, List.getElem?_eq_getElem (by rw [HM.out]; exact hlt2)⟩
            have HUY := Lib.hid hy
            have HANY : Hid ((U.take (k + 1)).any (isM x.m) = ((U.take k).any (isM x.m) || isM x.m y)) := by
              show _ = _
              have hk2 := (List.getElem?_eq_some_iff.1 hy).1
              rw [List.take_succ_eq_append_getElem hk2, List.any_append, (List.getElem?_eq_some_iff.1 hy).2]
              simp
            have HXI := Lib.hid (old_below HXR.out HBI.out (row_lt HXR.out))
            cases hb : (U.take k).any (isM x.m)
            · rw [hb] at HANY
              obtain ⟨g, c', cur, hv, -, hgg, -, -, -, -⟩ := ownk_some HOW.out (by omega)
              injection hv with hv1 _ hv3
              subst hv1 hv3
              have KY : Hid (∀ w', Below wr.heap.size wr w' → ∀ (q : Nat) v, (macA y.m)[q]? = some v → w'.cell? ((⟨g, k * 7, none⟩ : Addr).add q) = some v) := fun w' hb9 q v hv => by
                obtain ⟨ad9, had, hel⟩ := ln_cells ((Tr.own (ownk_below (ownk_below HOW.out HBI.out (Nat.le_refl _)) hb9 (Nat.le_refl _))).wide (Nat.zero_le _)) hy
                injection had with had
                subst had
                have := hel q v (lnA_mac y q v hv)
                rwa [Addr.add_mid, Nat.zero_add] at this
              have KX : Hid (∀ w', Below wr.heap.size wr w' → ∀ (q : Nat) v, (macA x.m)[q]? = some v → w'.cell? ((ad.add (i * 7)).add q) = some v) := fun w' hb9 q v hv => by
                obtain ⟨ad8, had8, hel8⟩ := ln_cells (((HTR.out.below HBE.out (Nat.le_refl _)).below HBI.out (Nat.le_refl _)).below hb9 (Nat.le_refl _)) HSX.out
                injection had8 with had8
                subst had8
                exact hel8 q v (lnA_mac x q v hv)
              have heq : ∀ w, (Op.equalIn 10000 46 (.agg (macA y.m)) (.agg (macA x.m))).run Try.prog w = .ok (isM x.m y) w := eq_mac 9998 y.m x.m
              clear hy hgg
              cases hq : isM x.m y
              · rw [hq] at heq HANY
                clear hq
                go_upto_region 9 with (fail)
                have KY2 : Hid (∀ w', Reg wr w' → ∀ (q : Nat) v, (macA y.m)[q]? = some v → w'.cell? ((⟨g, k * 7, none⟩ : Addr).add q) = some v) := fun w' ⟨p, e⟩ => by rw [e]; exact KY.out _ (below_regrown wr p.d p.os)
                have KX2 : Hid (∀ w', Reg wr w' → ∀ (q : Nat) v, (macA x.m)[q]? = some v → w'.cell? ((ad.add (i * 7)).add q) = some v) := fun w' ⟨p, e⟩ => by rw [e]; exact KX.out _ (below_regrown wr p.d p.os)
                obtain ⟨a0, a1⟩ := two_cells HXI.out
                have c1 := fun d os => cell_regrown a1 d os
                clear a0 a1
                refine wp_region_quiet_below (by kernel_rfl) (by kernel_rfl) ?_
                quiet_step (fail)
                quiet_step (fail)
                go_big_quiet_step (fail)
                go_big_quiet_step (fail)
                go_big_quiet_step (fail)
                go_big_quiet_step (fail)
                (refine wpQuiet_step (fun K hK => ?_); refine quiet_load_at (by kernel_rfl) 46 _ rfl (⟨g, k * 7, none⟩) (by first | rfl | (simp [Act.eval, Addr.add_mid])) (macA y.m) _ KY2.out Try.underlying46 rfl (by kernel_rfl) ?_; refine hK _ ?_; clear hK K; go_frame)
                go_big_quiet_step (fail)
                go_big_quiet_step (fail)
                go_big_quiet_step (fail)
                go_big_quiet_step (fail)
                go_big_quiet_step (fail)
                (refine wpQuiet_step (fun K hK => ?_); refine quiet_load_at (by kernel_rfl) 46 _ rfl (ad.add (i * 7)) (by first | rfl | (simp [Act.eval, Addr.add_mid])) (macA x.m) _ KX2.out Try.underlying46 rfl (by kernel_rfl) ?_; refine hK _ ?_; clear hK K; go_frame)
                repeat (first | go_big_quiet_step (fail) | quiet_step (fail))
                refine wpQuiet_nil ?_
                intro w3 hw'
                obtain ⟨⟨dq, osq⟩, rfl⟩ := hw'
                have HB3 := Lib.hid (HBI.out.trans ((below_regrown wr dq osq).mono HBI.out.size))
                generalize Sort.grow (redrawn wr dq) osq = w3 at HB3 ⊢
                go_wp2
                go_roundw
                case rel => exact ⟨k + 1, by omega, by go_num, by rw [HANY.out]; rfl, HB3⟩
                case measure => simp [intOf]; omega
              · rw [hq] at heq HANY
                clear hq
                go_upto_region 9 with (fail)
                have KY2 : Hid (∀ w', Reg wr w' → ∀ (q : Nat) v, (macA y.m)[q]? = some v → w'.cell? ((⟨g, k * 7, none⟩ : Addr).add q) = some v) := fun w' ⟨p, e⟩ => by rw [e]; exact KY.out _ (below_regrown wr p.d p.os)
                have KX2 : Hid (∀ w', Reg wr w' → ∀ (q : Nat) v, (macA x.m)[q]? = some v → w'.cell? ((ad.add (i * 7)).add q) = some v) := fun w' ⟨p, e⟩ => by rw [e]; exact KX.out _ (below_regrown wr p.d p.os)
                obtain ⟨a0, a1⟩ := two_cells HXI.out
                have c1 := fun d os => cell_regrown a1 d os
                clear a0 a1
                refine wp_region_quiet_below (by kernel_rfl) (by kernel_rfl) ?_
                quiet_step (fail)
                quiet_step (fail)
                go_big_quiet_step (fail)
                go_big_quiet_step (fail)
                go_big_quiet_step (fail)
                go_big_quiet_step (fail)
                (refine wpQuiet_step (fun K hK => ?_); refine quiet_load_at (by kernel_rfl) 46 _ rfl (⟨g, k * 7, none⟩) (by first | rfl | (simp [Act.eval, Addr.add_mid])) (macA y.m) _ KY2.out Try.underlying46 rfl (by kernel_rfl) ?_; refine hK _ ?_; clear hK K; go_frame)
                go_big_quiet_step (fail)
                go_big_quiet_step (fail)
                go_big_quiet_step (fail)
                go_big_quiet_step (fail)
                go_big_quiet_step (fail)
                (refine wpQuiet_step (fun K hK => ?_); refine quiet_load_at (by kernel_rfl) 46 _ rfl (ad.add (i * 7)) (by first | rfl | (simp [Act.eval, Addr.add_mid])) (macA x.m) _ KX2.out Try.underlying46 rfl (by kernel_rfl) ?_; refine hK _ ?_; clear hK K; go_frame)
                repeat (first | go_big_quiet_step (fail) | quiet_step (fail))
                refine wpQuiet_nil ?_
                intro w3 hw'
                obtain ⟨⟨dq, osq⟩, rfl⟩ := hw'
                have HB3 := Lib.hid (HBI.out.trans ((below_regrown wr dq osq).mono HBI.out.size))
                generalize Sort.grow (redrawn wr dq) osq = w3 at HB3 ⊢
                go_wp2
                go_roundw
                case rel => exact ⟨k + 1, by omega, by go_num, by rw [HANY.out]; rfl, HB3⟩
                case measure => simp [intOf]; omega
            · rw [hb] at HANY
              clear hy hb
              go_upto_region 9 with (fail)
              refine wp_region_quiet_below (by kernel_rfl) (by kernel_rfl) ?_
              repeat (first | go_big_quiet_step (fail) | quiet_step (fail))
              refine wpQuiet_nil ?_
              intro w3 hw'
              obtain ⟨⟨dq, osq⟩, rfl⟩ := hw'
              have HB3 := Lib.hid (HBI.out.trans ((below_regrown wr dq osq).mono HBI.out.size))
              generalize Sort.grow (redrawn wr dq) osq = w3 at HB3 ⊢
              go_wp2
              go_roundw
              case rel => exact ⟨k + 1, by omega, by go_num, by rw [HANY.out]; rfl, HB3⟩
              case measure => simp [intOf]; omega
          · obtain rfl : k = m := by omega
            have hall : (U.take k).any (isM x.m) = U.any (isM x.m) := by rw [List.take_of_length_le (Nat.le_of_eq HM.out)]
            rw [hall]
            clear hall
            have HXI := Lib.hid (old_below HXR.out HBI.out (row_lt HXR.out))
            obtain ⟨a0, a1⟩ := two_cells HXI.out
            have HAN := any_is (a := x.m) HU.out
            have HBJ := Lib.hid (HBE.out.trans (HBI.out.mono HBE.out.size))
            have HOI := Lib.hid (ownk_below HOW.out HBI.out (Nat.le_refl _))
            have hgi2 : (i : Int) - 1 = (n : Int) - 1 - ((j + 1 : Nat) : Int) := by omega
            cases hb : U.any (isM x.m)
            · have hno : ∀ y ∈ S.reverse.take j, y.m ≠ x.m := fun y hy e => by
                have := HAN.2 ⟨y, hy, e⟩
                rw [hb] at this
                cases this
              have HU2 : Hid ((x :: U).reverse = ddf (S.reverse.take (j + 1))) := by
                show _ = _
                rw [HTK.out, ddf_snoc hno, ← HU.out, List.reverse_cons]
              have HEX : Hid (∀ (q : Nat) v, (lnA x)[q]? = some v → wr.cell? ((ad.add (i * 7)).add q) = some v) := by
                obtain ⟨ad8, had8, hel8⟩ := ln_cells ((HTR.out.below HBE.out (Nat.le_refl _)).below HBI.out (Nat.le_refl _)) HSX.out
                injection had8 with had8
                subst had8
                exact hel8
              have HON := Lib.hid (own_one7 (w := wr) (B := w1.heap.size) HBJ.out.size x)
              obtain ⟨i0, q0, q1, q2, q3⟩ := info_l7
              have HRD := Lib.hid (Tr.rd (Tr.own (ownk_below HOI.out ((Below.refl wr.heap.size wr).alloc (Nat.le_refl _) (.cells (lnA x) 58)) (Nat.le_refl _))))
              have HUL : Hid ((lns U).length = k * 7) := by show _ = _; rw [lns_length, HM.out]
              have HXL : Hid ((x :: U).length = k + 1) := by show _ = _; rw [List.length_cons, HM.out]
              clear hb HAN hno
              go_wp2_with (first | refine wpList_load_atA rfl 58 _ rfl (ad.add (i * 7)) rfl (lnA x) _ HEX.out Try.underlying58 rfl (by kernel_rfl) ?_ | refine wpList_build_one rfl 25 58 _ rfl (lnA x) rfl Try.underlying25 7 (by decide) (by decide) (by kernel_rfl) rfl ?_ | (at_builtin; refine wpList_append_rdk rfl _ _ 25 rfl w1.heap.size 58 i0 _ 7 16 Try.underlying25 q0 q1 q2 q3 rfl (by decide) _ 1 (lnA x).toList rfl HON.out A3 k c3 (lns U) rfl HA3.out HUL.out HRD.out (lns_one U) (by unfold maxLen; omega) (by omega) (by have := HBJ.out.size; simp; omega) ?_; intro v6 w6 hown6 hgrow6 hblk6; have HOW6 := Lib.hid hown6; have HGW6 := Lib.hid hgrow6; clear hown6 hgrow6 hblk6))
              have HB6 : Hid (Below w1.heap.size w1 w6) := (HBJ.out.alloc HBJ.out.size _).grown HGW6.out (by have := HBJ.out.size; simp; omega) fun g hg => (HON.out.lt g hg).1
              have HO6 : Hid (w6.ownsRow w1.heap.size 58 7 v6 (x :: U).length (lns (x :: U))) := by
                show World.ownsRow _ _ _ _ _ _ _
                rw [HXL.out, Nat.add_comm k 1, lns_cons]
                exact HOW6.out
              clear HGW6 HOW6 q0 q1 q2 q3 a0 a1
              go_wp2
              go_roundw
              case rel => exact ⟨j + 1, x :: U, by omega, by rw [← hgi2]; go_num, by rw [HXL.out]; omega, HU2, HO6, HB6⟩
              case measure => simp [intOf]; omega
            · obtain hol := HAN.1 hb
              have HU2 : Hid (U.reverse = ddf (S.reverse.take (j + 1))) := by
                show _ = _
                rw [HTK.out, ddf_old hol]
                exact HU.out
              have HO6 : Hid (wr.ownsRow w1.heap.size 58 7 (.slice A3 k c3) U.length (lns U)) := by rw [HM.out]; exact HOI.out
              clear hb HAN hol a0 a1
              go_wp2
              go_roundw
              case rel => exact ⟨j + 1, U, by omega, by rw [← hgi2]; go_num, by rw [HM.out]; exact hu, HU2, HO6, HBJ⟩
              case measure => simp [intOf]; omega
      · have h16b : ¬ (m : Int) < 16 := by omega
        have HKU : Hid (KF S = U) := kf_all HU.out (by rw [HM.out]; exact hu) (.inr (by rw [HM.out]; omega))
        go_wp2
        go_ret
        exact ⟨_, rfl, by rw [HKU.out, HM.out]; exact ownk_base HOW.out HB1.out.size, HB1.out.trans (HBE.out.mono HB1.out.size)⟩
    · obtain rfl : j = n := by omega
      have hneg : ¬ (0 : Int) ≤ (j : Int) - 1 - (j : Int) := by omega
      have HKU : Hid (KF S = U) := kf_all HU.out (by rw [HM.out]; exact hu) (.inl (Nat.le_of_eq HN.out))
      go_wp2
      go_ret
      exact ⟨_, rfl, by rw [HKU.out, HM.out]; exact ownk_base HOW.out HB1.out.size, HB1.out.trans (HBE.out.mono HB1.out.size)⟩
end Go.Proofs.Ytecbelnmdimnkaa
