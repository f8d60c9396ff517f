/-
  slices.DeleteFunc of ports, in a row of the call's own. No condition.
-/
import Derived.Test.YtecbelnmdimnkaaDfB
namespace Go.Proofs.Ytecbelnmdimnkaa
open Go.RowKit

theorem del1_start (K : List Nat) (a : Nat) (i : Nat) (h : Nat) (hk : K[i]? = some h) (hf : isP a h = true) (hp : (K.take i).filter (fun x => !isP a x) = K.take i) : K.take i = keepP (K.take (i + 1)) a := by
  unfold keepP
  rw [filter_succ _ _ _ _ hk, hp, if_neg (by simp [hf]), List.append_nil]
theorem del1_keep (K R : List Nat) (a : Nat) (i j : Nat) (h : Nat) (hk : K[j]? = some h) (hf : isP a h = false) (hij : i < j) (hl : R.length = K.length) (h1 : R.take i = keepP (K.take j) a) (h2 : R.drop j = K.drop j) :
    (R.set i h).take (i + 1) = keepP (K.take (j + 1)) a ∧ (R.set i h).drop (j + 1) = K.drop (j + 1) := by
  have hj := (List.getElem?_eq_some_iff.1 hk).1
  constructor
  · unfold keepP at *
    rw [filter_succ _ _ _ _ hk, if_pos (by simp [hf]), ← h1, List.take_succ_eq_append_getElem (by rw [List.length_set]; omega), List.getElem_set_self, List.take_set_of_le (Nat.le_refl _)]
  · rw [List.drop_set_of_lt (by omega)]
    have := congrArg (List.drop 1) h2
    simpa [List.drop_drop] using this
theorem del1_drop (K R : List Nat) (a : Nat) (i j : Nat) (h : Nat) (hk : K[j]? = some h) (hf : isP a h = true) (h1 : R.take i = keepP (K.take j) a) (h2 : R.drop j = K.drop j) :
    R.take i = keepP (K.take (j + 1)) a ∧ R.drop (j + 1) = K.drop (j + 1) := by
  constructor
  · unfold keepP at *
    rw [filter_succ _ _ _ _ hk, if_neg (by simp [hf]), List.append_nil, ← h1]
  · have := congrArg (List.drop 1) h2
    simpa [List.drop_drop] using this
theorem del1_at (K R : List Nat) (j : Nat) (h : Nat) (hk : K[j]? = some h) (h2 : R.drop j = K.drop j) : R[j]? = some h := by
  have := congrArg (·[0]?) h2
  simp only [List.getElem?_drop, Nat.add_zero] at this
  rw [this]
  exact hk
theorem grown_cell {w w' : World} {g : Nat} (h : w.grownBy w' (some g)) (i : Nat) (u : Value) : w.grownBy (w'.setCell ⟨g, i, none⟩ u) (some g) :=
  ⟨h.os, h.tape, h.output, by simp; exact h.size, fun k hk hx => (heap_setCell_other w' ⟨g, i, none⟩ k u (fun e => hx (by rw [e]))).trans (h.block k hk hx)⟩
set_option maxRecDepth 100000 in
set_option maxHeartbeats 4000000 in
theorem del1_any (v : Value) (K : List Nat) (a : Nat) (b lo : Nat) (w : World) (hown : w.ownsRow lo 3 1 v K.length (ints K)) (hl : K.length ≤ 1000) (hg : w.heap[b]? = some (.cells #[.int .i64 (a : Int)] 3 (0, 0))) (hbn : v.ownBlock ≠ some b) :
    Calls Try.prog 30 #[v, .func (.func 31) #[] #[.pointer (some ⟨b, 0, none⟩)]] w fun e w' => ∃ v', e = .returned v' ∧ w'.ownsRow lo 3 1 v' (keepP K a).length (ints (keepP K a)) ∧ w.grownBy w' v.ownBlock ∧ v'.ownBlock = v.ownBlock := by
  have HI := Lib.hid (idx1_any v K a b w (IsT.own hown) hl hg)
  have HOW := Lib.hid hown
  have HG := Lib.hid hg
  obtain ⟨A, c, rfl, hnc, hcm, hA⟩ := ownk_form hown
  rcases idxV_cases (isP a) K with ⟨hi, hk⟩ | ⟨i0, hi, hlt, ⟨h0, hk0, hf0⟩, hpre⟩
  · rw [hi] at HI
    have HK : Hid (keepP K a = K) := hk
    clear hown hnc hcm hA hi hk hg hl
    go_enter Try.func30, Try.ntmps30
    go_wp2_with fail
    refine HI.out.mono ?_
    rintro e w1 ⟨rfl, rfl⟩
    have hb : Below w.heap.size w w := Below.refl _ _
    have HB := Lib.hid hb
    clear hb
    go_wp2
    go_ret
    exact ⟨_, rfl, by rw [HK.out]; exact ownk_below HOW.out HB.out (Nat.le_refl _), grown_of HB.out, rfl⟩
  · rw [hi] at HI
    obtain ⟨n, hn⟩ : ∃ n, K.length = n := ⟨_, rfl⟩
    rw [hn] at hlt hnc hl
    obtain ⟨g, c', cur, hv, hlo, hgg, -, -, -, -⟩ := ownk_some hown (by omega)
    injection hv with hv1 _ hv3
    subst hv1 hv3
    have HBG : Hid (g ≠ b) := fun e => by
      subst e
      exact hbn rfl
    clear hbn
    have HN := Lib.hid hn
    have HLO : Hid (lo ≤ g) := hlo
    have HOW2 : Hid (w.ownsRow lo 3 1 (.slice (some ⟨g, 0, none⟩) n c) n (ints K)) := by rw [← hn]; exact hown
    have HST := Lib.hid (del1_start K a i0 h0 hk0 hf0 hpre)
    have hcm2 : c ≤ 9223372036854775807 := by unfold maxLen at hcm; omega
    clear hown hcm hA hi hg hk0 hf0 hpre hlo hgg HOW
    rw [hn] at HI ⊢
    clear hn
    go_enter Try.func30, Try.ntmps30
    go_wp2_with fail
    refine HI.out.mono ?_
    rintro e w1 ⟨rfl, rfl⟩
    have hb : Below w.heap.size w w := Below.refl _ _
    have HO1 := Lib.hid (ownk_below HOW2.out hb (Nat.le_refl _))
    have HG1 : Hid (w.grownBy w (some g)) := grown_of hb
    clear hb HI HOW2
    have hne : ((i0 : Int) == -1) = false := by rw [beq_eq_false_iff_ne]; omega
    go_wp2
    clear hne
    go_loopw [5, 6] (fun t5 t6 wr => ∃ (i j : Nat) (R : List Nat), i < j ∧ j ≤ n ∧ t5 = .int .i64 (i : Int) ∧ t6 = .int .i64 (j : Int) ∧ Hid (R.take i = keepP (K.take j) a) ∧ Hid (R.drop j = K.drop j) ∧ Hid (R.length = n) ∧ Hid (wr.ownsRow lo 3 1 (.slice (some ⟨g, 0, none⟩) n c) n (ints R)) ∧ Hid (w.grownBy wr (some g))) (fun _ t6 _ => n - (intOf t6).toNat)
    case atStart => exact ⟨i0, i0 + 1, K, by omega, by omega, rfl, by simp, HST, Lib.hid rfl, HN, HO1, HG1⟩
    case round =>
      obtain ⟨i, j, R, hij, hjn, rfl, rfl, HTK, HDR, HRL, HOW, HGR⟩ := hrel
      clear HO1 HG1 HST
      have HGB : Hid (wr.heap[b]? = some (.cells #[.int .i64 (a : Int)] 3 (0, 0))) := (HGR.out.block b (row_lt HG.out) (fun e => HBG.out (by injection e with e; exact e.symm))).trans HG.out
      by_cases hlt2 : j < n
      · obtain ⟨h, hh⟩ : ∃ h, K[j]? = some h := ⟨_, List.getElem?_eq_getElem (by rw [HN.out]; exact hlt2)⟩
        have hrj := del1_at K R j h hh HDR.out
        have HHK := Lib.hid hh
        have hcell := own_cell HOW.out (ints_get R j h hrj)
        clear hh hrj
        go_wp2_with fail
        refine (exc1_any h a b wr HGB.out).mono ?_
        rintro e w2 ⟨rfl, rfl⟩
        clear HGB
        cases hbl : isP a h
        · obtain ⟨h1, h2⟩ := del1_keep K R a i j h HHK.out hbl hij (HRL.out.trans HN.out.symm) HTK.out HDR.out
          have HT2 := Lib.hid h1
          have HD2 := Lib.hid h2
          have HL2 : Hid ((R.set i h).length = n) := by show _ = _; rw [List.length_set]; exact HRL.out
          have hown2 := own_put HOW.out (show i < n by omega) (u := .int .i64 (h : Int)) rfl
          rw [ints_set] at hown2
          have HOW3 := Lib.hid hown2
          have HG3 := Lib.hid (grown_cell HGR.out i (.int .i64 (h : Int)))
          obtain ⟨cur, hgc, -, -, -, hcs, -⟩ := own_at0 HOW.out (by omega)
          have hst := store_cell (P := Try.prog) (v := .int .i64 (h : Int)) hgc (show i < cur.size by omega) rfl
          have hfz := frozen_of_row wr g i cur _ hgc
          obtain ⟨u, hu⟩ : ∃ u, R[i]? = some u := ⟨_, List.getElem?_eq_getElem (by rw [HRL.out]; omega)⟩
          have hold := own_cell HOW.out (ints_get R i u hu)
          clear h1 h2 hbl hown2 HTK HDR hgc hcs HOW HGR hu
          go_wp2
          generalize wr.setCell ⟨g, i, none⟩ (.int .i64 (h : Int)) = w3 at HOW3 HG3 ⊢
          go_roundw
          case rel => exact ⟨i + 1, j + 1, R.set i h, by omega, by omega, by go_num, by go_num, HT2, HD2, HL2, HOW3, HG3⟩
          case measure => simp [intOf]; omega
        · obtain ⟨h1, h2⟩ := del1_drop K R a i j h HHK.out hbl HTK.out HDR.out
          have HT2 := Lib.hid h1
          have HD2 := Lib.hid h2
          clear h1 h2 hbl HTK HDR
          go_wp2
          go_roundw
          case rel => exact ⟨i, j + 1, R, by omega, by omega, rfl, by go_num, HT2, HD2, HRL, HOW, HGR⟩
          case measure => simp [intOf]; omega
      · obtain rfl : j = n := by omega
        have HKP : Hid (R.take i = keepP K a) := by
          have := HTK.out
          rwa [List.take_of_length_le (Nat.le_of_eq HN.out)] at this
        have HKL : Hid ((keepP K a).length = i) := by
          show _ = _
          rw [← HKP.out, List.length_take, HRL.out]
          omega
        obtain ⟨cur, hgc, -, -, -, hcs, htk⟩ := own_at0 HOW.out (by omega)
        obtain ⟨m, hm⟩ : ∃ m, j = i + (m + 1) := ⟨j - i - 1, by omega⟩
        obtain ⟨d, hd⟩ : ∃ d, c = i + (m + 1) + d := ⟨c - j, by omega⟩
        obtain ⟨cur3, hclr, hs3, ht3⟩ := clear_rest wr g (i) m (c - i) 1 3 36 3 0 (.int .i64 0) cur Try.underlying36 (fun w => by kernel_rfl) rfl (by decide) (by intro u hu; simp [Value.cells] at hu; subst hu; rfl) hgc (by rw [hcs, hd]; omega)
        have hji : j - i = m + 1 := by omega
        rw [← hji] at hclr
        have HT3 : Hid (cur3.toList.take (i) = ints (keepP K a)) := by
          show _ = _
          rw [ht3, ← HKP.out, ← ints_take R i, ← htk, List.take_take, Nat.min_eq_left (by omega)]
        have HS3 : Hid (cur3.size = c * 1) := hs3.trans hcs
        have HW3 := Lib.hid (setRow_heap wr g cur cur3 _ _ hgc)
        have HGE := Lib.hid (grown_setRow HGR.out cur3)
        clear hs3 ht3 hgc hcs htk hm hd hji
        go_wp2
        go_ret
        refine ⟨_, rfl, ?_, HGE.out, rfl⟩
        rw [HKL.out]
        exact ⟨by have h1 := ints_length (keepP K a); have h2 := HKL.out; omega, .inr ⟨g, c, cur3, rfl, HLO.out, HW3.out, by omega, by unfold maxLen; omega, HS3.out, (by rw [Nat.mul_one]; exact HT3.out)⟩⟩
end Go.Proofs.Ytecbelnmdimnkaa
