/-
  slices.DeleteFunc of what is learnt, in a row of the call's own. No condition.
-/
import Derived.Test.YtecbelnmdimnkaaDfB
namespace Go.Proofs.Ytecbelnmdimnkaa
open Go.RowKit

theorem del7_start (K : List Ln) (a : Mac) (i : Nat) (h : Ln) (hk : K[i]? = some h) (hf : isM a h = true) (hp : (K.take i).filter (fun x => !isM a x) = K.take i) : K.take i = keepK (K.take (i + 1)) a := by
  unfold keepK
  rw [filter_succ _ _ _ _ hk, hp, if_neg (by simp [hf]), List.append_nil]
theorem del7_keep (K R : List Ln) (a : Mac) (i j : Nat) (h : Ln) (hk : K[j]? = some h) (hf : isM a h = false) (hij : i < j) (hl : R.length = K.length) (h1 : R.take i = keepK (K.take j) a) (h2 : R.drop j = K.drop j) :
    (R.set i h).take (i + 1) = keepK (K.take (j + 1)) a ∧ (R.set i h).drop (j + 1) = K.drop (j + 1) := by
  have hj := (List.getElem?_eq_some_iff.1 hk).1
  constructor
  · unfold keepK at *
    rw [filter_succ _ _ _ _ hk, if_pos (by simp [hf]), ← h1, List.take_succ_eq_append_getElem (by rw [List.length_set]; omega), List.getElem_set_self, List.take_set_of_le (Nat.le_refl _)]
  · rw [List.drop_set_of_lt (by omega)]
    have := congrArg (List.drop 1) h2
    simpa [List.drop_drop] using this
theorem del7_drop (K R : List Ln) (a : Mac) (i j : Nat) (h : Ln) (hk : K[j]? = some h) (hf : isM a h = true) (h1 : R.take i = keepK (K.take j) a) (h2 : R.drop j = K.drop j) :
    R.take i = keepK (K.take (j + 1)) a ∧ R.drop (j + 1) = K.drop (j + 1) := by
  constructor
  · unfold keepK at *
    rw [filter_succ _ _ _ _ hk, if_neg (by simp [hf]), List.append_nil, ← h1]
  · have := congrArg (List.drop 1) h2
    simpa [List.drop_drop] using this
theorem del7_at (K R : List Ln) (j : Nat) (h : Ln) (hk : K[j]? = some h) (h2 : R.drop j = K.drop j) : R[j]? = some h := by
  have := congrArg (·[0]?) h2
  simp only [List.getElem?_drop, Nat.add_zero] at this
  rw [this]
  exact hk

set_option maxRecDepth 100000 in
set_option maxHeartbeats 4000000 in
theorem del7_any (v : Value) (K : List Ln) (a : Mac) (b lo : Nat) (w : World) (hown : w.ownsRow lo 58 7 v K.length (lns K)) (hl : K.length ≤ 1000) (hg : w.heap[b]? = some (.cells (macA a) 46 (0, 0))) :
    Calls Try.prog 25 #[v, .func (.func 26) #[] #[.pointer (some ⟨b, 0, none⟩)]] w fun e w' => ∃ v', e = .returned v' ∧ w'.ownsRow lo 58 7 v' (keepK K a).length (lns (keepK K a)) ∧ w.grownBy w' v.ownBlock ∧ v'.ownBlock = v.ownBlock := by
  have HI := Lib.hid (idx7_any v K a b w (KsT.own hown) hl hg)
  have HOW := Lib.hid hown
  have HG := Lib.hid hg
  obtain ⟨A, c, rfl, hnc, hcm, hA⟩ := ownk_form hown
  rcases idxV_cases (isM a) K with ⟨hi, hk⟩ | ⟨i0, hi, hlt, ⟨h0, hk0, hf0⟩, hpre⟩
  · rw [hi] at HI
    have HK : Hid (keepK K a = K) := hk
    clear hown hnc hcm hA hi hk hg hl
    go_enter Try.func25, Try.ntmps25
    go_wp2_with fail
    refine HI.out.mono ?_
    rintro e w1 ⟨rfl, hb⟩
    skip
    have HB := Lib.hid hb
    clear hb
    go_wp2
    go_ret
    exact ⟨_, rfl, by rw [HK.out]; exact ownk_below HOW.out HB.out (Nat.le_refl _), grown_of HB.out, rfl⟩
  · rw [hi] at HI
    obtain ⟨n, hn⟩ : ∃ n, K.length = n := ⟨_, rfl⟩
    rw [hn] at hlt hnc hl
    obtain ⟨g, c', cur, hv, hlo, hgg, -, -, -, -⟩ := ownk_some hown (by omega)
    injection hv with hv1 _ hv3
    subst hv1 hv3
    have HBG : Hid (g ≠ b) := fun e => by
      subst e
      rw [hg] at hgg
      injection hgg with hgg
      injection hgg with _ hgg
      exact absurd hgg (by decide)
    have HN := Lib.hid hn
    have HLO : Hid (lo ≤ g) := hlo
    have HOW2 : Hid (w.ownsRow lo 58 7 (.slice (some ⟨g, 0, none⟩) n c) n (lns K)) := by rw [← hn]; exact hown
    have HST := Lib.hid (del7_start K a i0 h0 hk0 hf0 hpre)
    have hcm2 : c ≤ 9223372036854775807 := by unfold maxLen at hcm; omega
    clear hown hcm hA hi hg hk0 hf0 hpre hlo hgg HOW
    rw [hn] at HI ⊢
    clear hn
    go_enter Try.func25, Try.ntmps25
    go_wp2_with fail
    refine HI.out.mono ?_
    rintro e w1 ⟨rfl, hb⟩
    skip
    have HO1 := Lib.hid (ownk_below HOW2.out hb (Nat.le_refl _))
    have HG1 : Hid (w.grownBy w1 (some g)) := grown_of hb
    clear hb HI HOW2
    have hne : ((i0 : Int) == -1) = false := by rw [beq_eq_false_iff_ne]; omega
    go_wp2
    clear hne
    go_loopw [5, 6] (fun t5 t6 wr => ∃ (i j : Nat) (R : List Ln), i < j ∧ j ≤ n ∧ t5 = .int .i64 (i : Int) ∧ t6 = .int .i64 (j : Int) ∧ Hid (R.take i = keepK (K.take j) a) ∧ Hid (R.drop j = K.drop j) ∧ Hid (R.length = n) ∧ Hid (wr.ownsRow lo 58 7 (.slice (some ⟨g, 0, none⟩) n c) n (lns R)) ∧ Hid (w.grownBy wr (some g))) (fun _ t6 _ => n - (intOf t6).toNat)
    case atStart => exact ⟨i0, i0 + 1, K, by omega, by omega, rfl, by simp, HST, Lib.hid rfl, HN, HO1, HG1⟩
    case round =>
      obtain ⟨i, j, R, hij, hjn, rfl, rfl, HTK, HDR, HRL, HOW, HGR⟩ := hrel
      clear HO1 HG1 HST
      have HGB : Hid (wr.heap[b]? = some (.cells (macA a) 46 (0, 0))) := (HGR.out.block b (row_lt HG.out) (fun e => HBG.out (by injection e with e; exact e.symm))).trans HG.out
      by_cases hlt2 : j < n
      · obtain ⟨h, hh⟩ : ∃ h, K[j]? = some h := ⟨_, List.getElem?_eq_getElem (by rw [HN.out]; exact hlt2)⟩
        have hrj := del7_at K R j h hh HDR.out
        have HHK := Lib.hid hh
        obtain ⟨ad, had, hel⟩ := ln_cells ((Tr.own HOW.out).wide (Nat.zero_le _)) hrj
        injection had with had
        subst had
        have HEL : Hid (∀ (k : Nat) v, (lnA h)[k]? = some v → wr.cell? ((⟨g, j * 7, none⟩ : Addr).add k) = some v) := fun k v hv => by
          have := hel k v hv
          rwa [Addr.add_mid, Nat.zero_add] at this
        clear hh hrj hel
        go_wp2_with (first | refine wpList_load_atA rfl 58 _ rfl ⟨g, j * 7, none⟩ rfl (lnA h) _ HEL.out Try.underlying58 rfl (by kernel_rfl) ?_ | refine wpList_store_new rfl 58 _ _ rfl wr Z7 (lnA h) rfl rfl (by kernel_rfl) rfl (lnA_one h) ?_ | refine wpList_load_row rfl 58 _ rfl wr.heap.size rfl 58 (lnA h) (0, 0) _ (heap_alloc_new wr _) Try.underlying58 rfl (by kernel_rfl) ?_)
        refine (see1_any h a b _ (old_alloc HGB.out _)).mono ?_
        rintro e w2 ⟨rfl, hb⟩
        have hb0 : Below wr.heap.size wr w2 := ((Below.refl wr.heap.size wr).alloc (Nat.le_refl _) _).trans (hb.mono (by simp))
        have HX2 : Hid (w2.heap[wr.heap.size]? = some (.cells (lnA h) 58 (0, 0))) := (hb.block _ (by simp)).trans (heap_alloc_new wr _)
        have HO2 := Lib.hid (ownk_below HOW.out hb0 (Nat.le_refl _))
        have HG2 := Lib.hid (grown_below HGR.out hb0)
        clear hb hb0 HEL HOW HGR HGB
        cases hbl : isM a h
        · obtain ⟨h1, h2⟩ := del7_keep K R a i j h HHK.out hbl hij (HRL.out.trans HN.out.symm) HTK.out HDR.out
          have HT2 := Lib.hid h1
          have HD2 := Lib.hid h2
          have HL2 : Hid ((R.set i h).length = n) := by show _ = _; rw [List.length_set]; exact HRL.out
          obtain ⟨cur, cur2, hgc, hsz, hcur2, hown2⟩ := own_put7 HO2.out (show i < n by omega) h
          have HGC := Lib.hid hgc
          have HSZ : Hid (i * 7 + (lnA h).size ≤ cur.size) := hsz
          have HOW3 := Lib.hid hown2
          have HG3 := Lib.hid (grown_setRow HG2.out cur2)
          have HC2 := Lib.hid hcur2
          clear h1 h2 hbl hgc hsz hcur2 hown2 HO2 HG2 HTK HDR
          go_wp2_with (first | refine wpList_load_row rfl 58 _ rfl wr.heap.size rfl 58 (lnA h) (0, 0) _ HX2.out Try.underlying58 rfl (by kernel_rfl) ?_ | refine wpList_store_elem rfl 58 _ _ rfl g (i * 7) (lnA h) (by first | rfl | (simp [Addr.add_mid, Act.eval])) rfl cur _ HGC.out HSZ.out (by kernel_rfl) (lnA_one h) cur2 HC2.out ?_)
          generalize w2.setRow g cur2 = w3 at HOW3 HG3 ⊢
          go_wp2
          go_roundw
          case rel => exact ⟨i + 1, j + 1, R.set i h, by omega, by omega, by go_num, by go_num, HT2, HD2, HL2, HOW3, HG3⟩
          case measure => simp [intOf]; omega
        · obtain ⟨h1, h2⟩ := del7_drop K R a i j h HHK.out hbl HTK.out HDR.out
          have HT2 := Lib.hid h1
          have HD2 := Lib.hid h2
          clear h1 h2 hbl HTK HDR
          go_wp2
          go_roundw
          case rel => exact ⟨i, j + 1, R, by omega, by omega, rfl, by go_num, HT2, HD2, HRL, HO2, HG2⟩
          case measure => simp [intOf]; omega
      · obtain rfl : j = n := by omega
        have HKP : Hid (R.take i = keepK K a) := by
          have := HTK.out
          rwa [List.take_of_length_le (Nat.le_of_eq HN.out)] at this
        have HKL : Hid ((keepK K a).length = i) := by
          show _ = _
          rw [← HKP.out, List.length_take, HRL.out]
          omega
        obtain ⟨cur, hgc, -, -, -, hcs, htk⟩ := own_at0 HOW.out (by omega)
        obtain ⟨m, hm⟩ : ∃ m, j = i + (m + 1) := ⟨j - i - 1, by omega⟩
        obtain ⟨d, hd⟩ : ∃ d, c = i + (m + 1) + d := ⟨c - j, by omega⟩
        obtain ⟨cur3, hclr, hs3, ht3⟩ := clear_rest wr g (i * 7) m (c - i) 7 58 25 58 0 (.agg Z7) cur Try.underlying25 (fun w => by kernel_rfl) rfl (by decide) (by intro u hu; simp [Z7, Value.cells] at hu; rcases hu with rfl | rfl <;> rfl) hgc (by rw [hcs, hd]; omega)
        have hji : j - i = m + 1 := by omega
        rw [← hji] at hclr
        have HT3 : Hid (cur3.toList.take (i * 7) = lns (keepK K a)) := by
          show _ = _
          rw [ht3, ← HKP.out, ← lns_take R i, ← htk, List.take_take, Nat.min_eq_left (by omega)]
        have HS3 : Hid (cur3.size = c * 7) := hs3.trans hcs
        have HW3 := Lib.hid (setRow_heap wr g cur cur3 _ _ hgc)
        have HGE := Lib.hid (grown_setRow HGR.out cur3)
        clear hs3 ht3 hgc hcs htk hm hd hji
        go_wp2
        go_ret
        refine ⟨_, rfl, ?_, HGE.out, rfl⟩
        rw [HKL.out]
        exact ⟨by have h1 := lns_length (keepK K a); have h2 := HKL.out; omega, .inr ⟨g, c, cur3, rfl, HLO.out, HW3.out, by omega, by unfold maxLen; omega, HS3.out, HT3.out⟩⟩
end Go.Proofs.Ytecbelnmdimnkaa
