/-
  The document's Find and Like: where a card is, whether a bridge is the document's. No condition but that the cards are few.
-/
import Derived.Test.YtecbelnmdimnkaaKwB
import Derived.Test.YtecbelnmdimnkaaStB
namespace Go.Proofs.Ytecbelnmdimnkaa
open Go.RowKit

/-- where the document finds a card -/
def toX (K : List Ln) (a : Mac) : Int := if (findX K a).2 = true then ((findX K a).1 : Int) else -1
set_option maxRecDepth 100000 in
set_option maxHeartbeats 4000000 in
theorem reffind_any (v : Value) (P : Nat) (S : List Ln) (a : Mac) (w : World) (hv : BrT w v P S) (hl : S.length ≤ 1000) :
    Calls Try.prog 14 #[v, .agg (macA a)] w fun e w' => e = .returned (.int .i64 (toX (KF S) a)) ∧ Below w.heap.size w w' := by
  obtain ⟨s, rfl, hk⟩ := hv
  obtain ⟨w1, hw1⟩ : ∃ w1, (w.alloc (.cells #[.int .i64 (P : Int), s] 32)).alloc (.cells (macA a) 46) = w1 := ⟨_, rfl⟩
  have HB1 : Hid (Below w.heap.size w w1) := by rw [← hw1]; exact ((Below.refl _ _).alloc (Nat.le_refl _) _).alloc (by simp) _
  have HX0 : Hid (w1.heap[w.heap.size]? = some (.cells #[.int .i64 (P : Int), s] 32 (0, 0))) := by rw [← hw1]; exact old_alloc (heap_alloc_new w _) _
  have HX1 : Hid (w1.heap[w.heap.size + 1]? = some (.cells (macA a) 46 (0, 0))) := by rw [← hw1]; exact new_at1 w _ _
  have HKN : Hid (Calls Try.prog 24 #[.agg #[.int .i64 (P : Int), s]] w1 fun e w' => ∃ v', e = .returned v' ∧ w'.ownsRow w1.heap.size 58 7 v' (KF S).length (lns (KF S)) ∧ Below w1.heap.size w1 w') := known_any _ P S w1 ⟨s, rfl, hk.below HB1.out⟩ hl
  have HW := Lib.hid hw1
  have hso := hk.one
  have hkl := kf_le S
  obtain ⟨K, hK⟩ : ∃ K, KF S = K := ⟨_, rfl⟩
  rw [hK] at HKN hkl ⊢
  obtain ⟨n, hn⟩ : ∃ n, K.length = n := ⟨_, rfl⟩
  rw [hn] at HKN hkl
  have HN := Lib.hid hn
  clear hk hw1 hl hK hn
  go_enter Try.func14, Try.ntmps14
  go_upto_region 1 with (fail)
  change Code.wp _ _ _ _ ((w.alloc (.cells #[.int .i64 (P : Int), s] 32)).alloc (.cells (macA a) 46))
  rw [HW.out]
  clear HW
  generalize w.heap.size + 1 = b at HX1 ⊢
  go_wp2_with (refine wpList_load_row rfl 32 _ rfl w.heap.size rfl 32 #[.int .i64 (P : Int), s] (0, 0) _ HX0.out Try.underlying32 rfl (by kernel_rfl) ?_)
  refine HKN.out.mono ?_
  rintro e w2 ⟨v2, rfl, hown, hb⟩
  obtain ⟨A2, c2, rfl, hn2, hc2, -⟩ := ownk_form hown
  have hcm2 : c2 ≤ 9223372036854775807 := by unfold maxLen at hc2; omega
  have HOW := Lib.hid hown
  have HX2 := Lib.hid (old_below HX1.out hb (row_lt HX1.out))
  have HB2 := Lib.hid (HB1.out.trans (hb.mono HB1.out.size))
  clear hown hb HX0 HX1 HB1 HKN hc2 hso
  go_wp2
  go_loopw [6] (fun t6 wr => ∃ k : Nat, k ≤ n ∧ t6 = .int .i64 (k : Int) ∧ Hid (∀ j h, j < k → K[j]? = some h → isM a h = false) ∧ Hid (Below w2.heap.size w2 wr)) (fun t6 _ => n - (intOf t6).toNat)
  case atStart => exact ⟨0, Nat.zero_le _, rfl, Lib.hid (fun j h hj => by omega), Lib.hid (Below.refl _ _)⟩
  case round =>
    obtain ⟨k, hk, rfl, HNO, HBEL⟩ := hrel
    have HBW := Lib.hid (HB2.out.trans (HBEL.out.mono HB2.out.size))
    by_cases hlt : k < n
    · obtain ⟨h, hh⟩ : ∃ h, K[k]? = some h := ⟨_, List.getElem?_eq_getElem (by rw [HN.out]; exact hlt)⟩
      obtain ⟨g, c', cur, hv, -, -, -, -, -, -⟩ := ownk_some HOW.out (by omega)
      injection hv with hv1 _ hv3
      subst hv1 hv3
      obtain ⟨ad, had, hel⟩ := ln_cells ((Tr.own (ownk_below HOW.out HBEL.out (Nat.le_refl _))).wide (Nat.zero_le _)) hh
      injection had with had
      subst had
      have HHK := Lib.hid hh
      have HX3 := Lib.hid (old_below HX2.out HBEL.out (row_lt HX2.out))
      have HC : Hid (∀ (j : Nat) v, (macA h.m)[j]? = some v → wr.cell? ((⟨g, k * 7, none⟩ : Addr).add j) = some v) := fun j v hv => by
        have := hel j v (lnA_mac h j v hv)
        rwa [Addr.add_mid, Nat.zero_add] at this
      have heq : ∀ w, (Op.equalIn 10000 46 (.agg (macA h.m)) (.agg (macA a))).run Try.prog w = .ok (isM a h) w := eq_mac 9998 h.m a
      obtain ⟨M, hM⟩ : ∃ M, macA h.m = M := ⟨_, rfl⟩
      have HSM : Hid (M.size = 6) := by rw [← hM]; exact macA_size h.m
      rw [hM] at HC heq
      clear hM hh hel
      cases hbl : isM a h
      · have HN2 : Hid (∀ j h, j < k + 1 → K[j]? = some h → isM a h = false) := fun j h' hj hj2 => by
          by_cases hjk : j < k
          · exact HNO.out j h' hjk hj2
          · obtain rfl : j = k := by omega
            rw [HHK.out] at hj2
            injection hj2 with hj2
            rw [← hj2]
            exact hbl
        rw [hbl] at heq
        clear hbl
        go_upto_region 5 with (fail)
        refine wp_region_quiet_below (by kernel_rfl) (by kernel_rfl) ?_
        iterate 4 (quiet_step (fail))
        (refine wpQuiet_step (fun K hK => ?_); refine quiet_load_at (by kernel_rfl) 46 _ rfl (⟨g, k * 7, none⟩) (by first | rfl | (simp [Act.eval, Addr.add_mid])) M _ (reg_cells HC.out) Try.underlying46 rfl (by rw [HSM.out]; kernel_rfl) ?_; refine hK _ ?_; clear hK K; go_frame)
        (refine wpQuiet_step (fun K hK => ?_); refine quiet_load_row (by kernel_rfl) 46 _ rfl b rfl _ (macA a) _ _ (reg_row HX3.out) Try.underlying46 rfl (by kernel_rfl) ?_; refine hK _ ?_; clear hK K; go_frame)
        repeat (first | go_big_quiet_step (fail) | quiet_step (fail))
        refine wpQuiet_nil ?_
        intro w3 hw'
        obtain ⟨⟨dq, osq⟩, rfl⟩ := hw'
        have HB3 := Lib.hid (HBEL.out.trans ((below_regrown wr dq osq).mono HBEL.out.size))
        generalize Sort.grow (redrawn wr dq) osq = w3 at HB3 ⊢
        go_wp2
        go_roundw
        case rel => exact ⟨k + 1, by omega, by go_num, HN2, HB3⟩
        case measure => simp [intOf]; omega
      · have HV : Hid (toX K a = (h.p : Int)) := by
          show _ = _
          unfold toX findX
          rw [findX_some HHK.out hbl HNO.out]
          rfl
        rw [hbl] at heq
        clear hbl
        go_upto_region 5 with (fail)
        refine wp_region_quiet_below (by kernel_rfl) (by kernel_rfl) ?_
        iterate 4 (quiet_step (fail))
        (refine wpQuiet_step (fun K hK => ?_); refine quiet_load_at (by kernel_rfl) 46 _ rfl (⟨g, k * 7, none⟩) (by first | rfl | (simp [Act.eval, Addr.add_mid])) M _ (reg_cells HC.out) Try.underlying46 rfl (by rw [HSM.out]; kernel_rfl) ?_; refine hK _ ?_; clear hK K; go_frame)
        (refine wpQuiet_step (fun K hK => ?_); refine quiet_load_row (by kernel_rfl) 46 _ rfl b rfl _ (macA a) _ _ (reg_row HX3.out) Try.underlying46 rfl (by kernel_rfl) ?_; refine hK _ ?_; clear hK K; go_frame)
        repeat (first | go_big_quiet_step (fail) | quiet_step (fail))
        refine wpQuiet_nil ?_
        intro w3 hw'
        obtain ⟨⟨dq, osq⟩, rfl⟩ := hw'
        have HB3 := Lib.hid (HBEL.out.trans ((below_regrown wr dq osq).mono HBEL.out.size))
        generalize Sort.grow (redrawn wr dq) osq = w3 at HB3 ⊢
        have hcp : w3.cell? ⟨g, k * 7 + 6, none⟩ = some (.int .i64 (h.p : Int)) := by
          obtain ⟨ad, had, hel⟩ := ln_cells ((Tr.own (ownk_below HOW.out HB3.out (Nat.le_refl _))).wide (Nat.zero_le _)) HHK.out
          injection had with had
          subst had
          have := hel 6 _ (lnA_port h)
          rwa [Addr.add_mid, Nat.zero_add, Addr.add_mid] at this
        have HBW3 := Lib.hid (HB2.out.trans (HB3.out.mono HB2.out.size))
        go_wp2
        go_ret
        exact ⟨by rw [HV.out]; rfl, HBW3.out⟩
    · obtain rfl : k = n := by omega
      have HV : Hid (toX K a = -1) := by
        show _ = _
        unfold toX findX
        rw [findX_none fun j h hj hj2 => HNO.out j h (by rw [← HN.out]; exact hj) hj2]
        rfl
      go_wp2
      go_ret
      exact ⟨by rw [HV.out]; rfl, HBW.out⟩

set_option maxRecDepth 100000 in
set_option maxHeartbeats 4000000 in
theorem like_any (vr vb : Value) (P : Nat) (S : List Ln) (w : World) (hr : BrT w vr P S) (hb : BrT w vb P (KF S)) (hl : S.length ≤ 1000) :
    Calls Try.prog 12 #[vr, vb] w fun e w' => e = .returned (.bool true) ∧ Below w.heap.size w w' := by
  obtain ⟨s, rfl, hk⟩ := hr
  obtain ⟨u, rfl, hu⟩ := hb
  obtain ⟨w1, hw1⟩ : ∃ w1, (w.alloc (.cells #[.int .i64 (P : Int), s] 32)).alloc (.cells #[.int .i64 (P : Int), u] 27) = w1 := ⟨_, rfl⟩
  have HB1 : Hid (Below w.heap.size w w1) := by rw [← hw1]; exact ((Below.refl _ _).alloc (Nat.le_refl _) _).alloc (by simp) _
  have HX0 : Hid (w1.heap[w.heap.size]? = some (.cells #[.int .i64 (P : Int), s] 32 (0, 0))) := by rw [← hw1]; exact old_alloc (heap_alloc_new w _) _
  have HX1 : Hid (w1.heap[w.heap.size + 1]? = some (.cells #[.int .i64 (P : Int), u] 27 (0, 0))) := by rw [← hw1]; exact new_at1 w _ _
  have HKN : Hid (Calls Try.prog 24 #[.agg #[.int .i64 (P : Int), s]] w1 fun e w' => ∃ v', e = .returned v' ∧ w'.ownsRow w1.heap.size 58 7 v' (KF S).length (lns (KF S)) ∧ Below w1.heap.size w1 w') := known_any _ P S w1 ⟨s, rfl, hk.below HB1.out⟩ hl
  have HU1 := Lib.hid (hu.below HB1.out)
  have HW := Lib.hid hw1
  have hso := hk.one
  have hkl := kf_le S
  obtain ⟨A3, c3, rfl, -, -, hn3, hc3⟩ := id hu
  have hcm3 : c3 ≤ 9223372036854775807 := by unfold maxLen at hc3; omega
  obtain ⟨K, hK⟩ : ∃ K, KF S = K := ⟨_, rfl⟩
  rw [hK] at HKN hkl HU1 hn3 HX1 HW
  obtain ⟨n, hn⟩ : ∃ n, K.length = n := ⟨_, rfl⟩
  rw [hn] at HKN hkl hn3 HX1 HW
  rw [hK, hn]
  have HN := Lib.hid hn
  clear hk hw1 hl hc3 hu
  go_enter Try.func12, Try.ntmps12
  go_upto_region 1 with (fail)
  change Code.wp _ _ _ _ ((w.alloc (.cells #[.int .i64 (P : Int), s] 32)).alloc (.cells #[.int .i64 (P : Int), .slice A3 n c3] 27))
  rw [HW.out]
  clear HW hK
  generalize w.heap.size + 1 = b at HX1 ⊢
  go_wp2_with (refine wpList_load_row rfl 32 _ rfl w.heap.size rfl 32 #[.int .i64 (P : Int), s] (0, 0) _ HX0.out Try.underlying32 rfl (by kernel_rfl) ?_)
  refine HKN.out.mono ?_
  rintro e w2 ⟨v2, rfl, hown, hb⟩
  obtain ⟨A2, c2, rfl, hn2, hc2, -⟩ := ownk_form hown
  have hcm2 : c2 ≤ 9223372036854775807 := by unfold maxLen at hc2; omega
  have HOW := Lib.hid hown
  have HX2 := Lib.hid (old_below HX1.out hb (row_lt HX1.out))
  obtain ⟨a0, a1⟩ := two_cells (old_below HX1.out hb (row_lt HX1.out))
  obtain ⟨r0, r1⟩ := two_cells (old_below HX0.out hb (row_lt HX0.out))
  have HB2 := Lib.hid (HB1.out.trans (hb.mono HB1.out.size))
  have HU2 := Lib.hid (HU1.out.below hb)
  clear hown hb HX0 HX1 HB1 HKN hc2 hn HU1
  go_wp2
  clear a0 a1 r0 r1 hso
  go_loopw [6] (fun t6 wr => ∃ k : Nat, k ≤ n ∧ t6 = .int .i64 (k : Int) ∧ Hid (Below w2.heap.size w2 wr)) (fun t6 _ => n - (intOf t6).toNat)
  case atStart => exact ⟨0, Nat.zero_le _, rfl, Lib.hid (Below.refl _ _)⟩
  case round =>
    obtain ⟨k, hk, rfl, HBEL⟩ := hrel
    have HBW := Lib.hid (HB2.out.trans (HBEL.out.mono HB2.out.size))
    by_cases hlt : k < n
    · obtain ⟨h, hh⟩ : ∃ h, K[k]? = some h := ⟨_, List.getElem?_eq_getElem (by rw [HN.out]; exact hlt)⟩
      obtain ⟨g, c', cur, hv, -, -, -, -, -, -⟩ := ownk_some HOW.out (by omega)
      injection hv with hv1 _ hv3
      subst hv1 hv3
      obtain ⟨ad, had, hel⟩ := ln_cells ((Tr.own (ownk_below HOW.out HBEL.out (Nat.le_refl _))).wide (Nat.zero_le _)) hh
      injection had with had
      subst had
      obtain ⟨A4, c4, q4, htr4, -⟩ := HU2.out.below HBEL.out
      injection q4 with q4 _ _
      subst q4
      obtain ⟨ad4, rfl, hel4⟩ := ln_cells htr4 hh
      obtain ⟨a0, a1⟩ := two_cells (old_below HX2.out HBEL.out (row_lt HX2.out))
      have HC : Hid (∀ (j : Nat) v, (lnA h)[j]? = some v → wr.cell? ((⟨g, k * 7, none⟩ : Addr).add j) = some v) := fun j v hv => by
        have := hel j v hv
        rwa [Addr.add_mid, Nat.zero_add] at this
      have HC4 := Lib.hid hel4
      have heq : ∀ w, (Op.equalIn 10000 58 (.agg (lnA h)) (.agg (lnA h))).run Try.prog w = .ok true w := fun w => by
        have := eq_ln 9997 h h w
        rwa [decide_eq_true rfl] at this
      obtain ⟨C, hC⟩ : ∃ C, lnA h = C := ⟨_, rfl⟩
      have HSC : Hid (C.size = 7) := by rw [← hC]; exact lnA_size h
      rw [hC] at HC HC4 heq
      clear hC hh hel hel4 htr4
      have c1 := fun d os => cell_regrown a1 d os
      clear a0 a1
      go_upto_region 7 with (fail)
      refine wp_region_quiet_below (by kernel_rfl) (by kernel_rfl) ?_
      iterate 4 (quiet_step (fail))
      (refine wpQuiet_step (fun K hK => ?_); refine quiet_load_at (by kernel_rfl) 58 _ rfl (ad4.add (k * 7)) (by first | rfl | (simp [Act.eval, Addr.add_mid])) C _ (reg_cells HC4.out) Try.underlying58 rfl (by rw [HSC.out]; kernel_rfl) ?_; refine hK _ ?_; clear hK K; go_frame)
      iterate 3 (quiet_step (fail))
      (refine wpQuiet_step (fun K hK => ?_); refine quiet_load_at (by kernel_rfl) 58 _ rfl (⟨g, k * 7, none⟩) (by first | rfl | (simp [Act.eval, Addr.add_mid])) C _ (reg_cells HC.out) Try.underlying58 rfl (by rw [HSC.out]; kernel_rfl) ?_; refine hK _ ?_; clear hK K; go_frame)
      repeat (first | go_big_quiet_step (fail) | quiet_step (fail))
      refine wpQuiet_nil ?_
      intro w3 hw'
      obtain ⟨⟨dq, osq⟩, rfl⟩ := hw'
      have HB3 := Lib.hid (HBEL.out.trans ((below_regrown wr dq osq).mono HBEL.out.size))
      generalize Sort.grow (redrawn wr dq) osq = w3 at HB3 ⊢
      clear c1
      go_wp2
      go_roundw
      case rel => first | exact ⟨k + 1, by omega, by go_num, HB3⟩ | exact ⟨k + 1, by omega, by first | rfl | omega⟩
      case measure => simp [intOf]; omega
    · obtain rfl : k = n := by omega
      go_wp2
      go_ret
      exact ⟨rfl, HBW.out⟩
end Go.Proofs.Ytecbelnmdimnkaa
