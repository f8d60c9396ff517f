/-
  The law FragAgain: every packet, every two ints. No condition.
-/
import Derived.Test.YtogplhdcicajgaaPlan
import Derived.Test.YtogplhdcicajgaaLivesS
import Derived.Test.YtogplhdcicajgaaSplitAny
import Derived.Test.YtogplhdcicajgaaPkShape
import Derived.Deep.DeepCutAuto
namespace Go.Proofs.Ytogplhdcicajgaa
open Go.RowKit


theorem pkS_2 (p : Pk) (v : Value) (o : Int) : (pkC p v).toArray.setIfInBounds 2 (.int .i64 o) = (pkC { p with off := o } v).toArray := by
  rw [List.setIfInBounds_toArray]
  rfl
theorem pkS_1 (p : Pk) (v : Value) (m : Bool) : (pkC p v).toArray.setIfInBounds 1 (.bool m) = (pkC { p with more := m } v).toArray := by
  rw [List.setIfInBounds_toArray]
  rfl
theorem u64_range (z : Int) : 0 ≤ IntKind.u64.wrap z ∧ IntKind.u64.wrap z ≤ 18446744073709551615 := by
  rw [IntKind.wrap_u64]
  omega
theorem rem_small (z : Int) (n : Nat) (h : 0 < n) : ∃ k : Nat, z % (n : Int) = (k : Int) ∧ k ≤ n - 1 := by
  have h1 := Int.emod_nonneg z (show (n : Int) ≠ 0 by omega)
  have h2 := Int.emod_lt_of_pos z (show (0 : Int) < n by omega)
  obtain ⟨k, hk⟩ := Int.eq_ofNat_of_zero_le h1
  exact ⟨k, hk, by omega⟩

set_option maxRecDepth 100000 in
set_option maxHeartbeats 4000000 in
theorem again_any (cs : Array Value) (p : Pk) (a1 a2 : Int) (w : World) (h : PkV w 0 w.heap.size cs p) :
    Calls Try.prog 3 #[.agg cs, .int .i64 a1, .int .i64 a2] w fun e w' => e = .returned (.bool true) ∧ Below w.heap.size w w' := by
  have h2 := h.off_cell
  obtain ⟨A, c, h1, _, h13, hrd, hlc, hm, hA⟩ := h.parts
  obtain ⟨n, hbn⟩ : ∃ n, p.data.length = n := ⟨_, rfl⟩
  rw [hbn] at h13 hlc
  have HBN := Lib.hid hbn
  have hn2 : n ≤ 9223372036854775807 := by unfold maxLen at hm; omega
  have HF := Lib.hid h
  have HB0 := Lib.hid ((Below.refl w.heap.size w).alloc (Nat.le_refl _) (.cells cs 27))
  have HG0 := Lib.hid (heap_alloc_new w (.cells cs 27))
  have H13 := Lib.hid h13
  have H1 := Lib.hid h1
  have H2 := Lib.hid h2
  have HRD := Lib.hid hrd
  have HCC := Lib.hid (And.intro hlc hm)
  clear h hbn hlc hm h13 h1 h2 hrd hA
  by_cases hi : 1000 < n
  all_goals
    go_enter Try.func3, Try.ntmps3
    go_wp2_with fail
    refine (lives_any _).mono ?_
    rintro e w1 ⟨rfl, hb1⟩
    have hx1 := (hb1.block _ (row_lt HG0.out)).trans HG0.out
    have hc13 : w1.cell? ⟨w.heap.size, 13, none⟩ = some (.slice A n c) := by
      rw [cell_of_row _ _ _ _ _ _ hx1]
      exact H13.out
    have HX1 := Lib.hid hx1
    have HB1 := Lib.hid (HB0.out.trans (hb1.mono HB0.out.size))
    clear hb1 hx1
  · go_wp2_with fail
    refine (lives_any _).mono ?_
    rintro e w2 ⟨rfl, hb2⟩
    have HB := Lib.hid (HB1.out.trans (hb2.mono HB1.out.size))
    clear hb2
    go_wp2
    go_ret
    exact ⟨rfl, HB.out⟩
  · have hl1 : n ≤ 1000 := by omega
    clear hi
    obtain ⟨A0, c0, he, hok, hoff, hrd0, hlc0, hcm0, hA0⟩ := HF.out
    rw [HBN.out] at he hlc0
    have hAA : A0 = A ∧ c0 = c := by
      have h := H13.out
      rw [he, List.getElem?_toArray, pkC_13 hok] at h
      injection h with h
      injection h with h1 h2 h3
      exact ⟨h1, h3⟩
    obtain ⟨rfl, rfl⟩ := hAA
    obtain ⟨q, hq⟩ : ∃ q : Pk, q = { { p with off := (0 : Int) } with more := false } := ⟨_, rfl⟩
    have hy1 := heap_setCell_same w1 w.heap.size 2 cs 27 (.int .i64 0) HX1.out
    have hy2 := heap_setCell_same _ w.heap.size 1 _ 27 (.bool false) hy1
    have HB2 : Hid (Below w.heap.size w ((w1.setCell ⟨w.heap.size, 2, none⟩ (.int .i64 0)).setCell ⟨w.heap.size, 1, none⟩ (.bool false))) := (HB1.out.setCell (Nat.le_refl _) _).setCell (Nat.le_refl _) _
    rw [he, pkS_2, pkS_1, ← hq] at hy2
    have hqf : q.id = p.id ∧ q.src = p.src ∧ q.dst = p.dst ∧ q.data = p.data ∧ q.off = 0 ∧ q.more = false := by rw [hq]; exact ⟨rfl, rfl, rfl, rfl, rfl, rfl⟩
    have HQF := Lib.hid hqf
    obtain ⟨C1, hC1⟩ : ∃ C1, (pkC q (.slice A0 n c0)).toArray = C1 := ⟨_, rfl⟩
    rw [hC1] at hy2
    have HX2 := Lib.hid hy2
    have HC1 := Lib.hid hC1
    have HQV : Hid (PkV w 0 w.heap.size C1 q) := by
      show PkV _ _ _ _ _
      rw [← hC1]
      refine ⟨A0, c0, by rw [hqf.2.2.2.1, HBN.out], ?_, by rw [hqf.2.2.2.2.1]; omega, by rw [hqf.2.2.2.1]; exact hrd0, by rw [hqf.2.2.2.1, HBN.out]; exact hlc0, hcm0, hA0⟩
      rw [hq]
      exact hok
    have HSP : Hid (splitP q = (splitL q (piecesN n), 0)) := by
      show _ = _
      unfold splitP
      rw [if_neg (by rw [hqf.2.2.2.2.1, hqf.2.2.2.2.2]; simp), hqf.2.2.2.1, HBN.out, if_neg (by omega)]
    have hc2 : w1.cell? ⟨w.heap.size, 2, none⟩ = some (.int .i64 p.off) := by rw [cell_of_row _ _ _ _ _ _ HX1.out]; exact H2.out
    have hc1 : w1.cell? ⟨w.heap.size, 1, none⟩ = some (.bool p.more) := by rw [cell_of_row _ _ _ _ _ _ HX1.out]; exact H1.out
    have hf2 := frozen_of_row _ _ 2 _ _ HX1.out
    have hf1 := frozen_of_row _ _ 1 _ _ HX1.out
    clear he hok hoff hrd0 hlc0 hcm0 hA0 hq hy1 hy2 hqf hC1
    go_wp2_with (refine wpList_load_row rfl 27 _ rfl w.heap.size rfl 27 C1 (0, 0) _ HX2.out Try.underlying27 rfl (size_pk HQV.out.size) ?_)
    generalize (w1.setCell ⟨w.heap.size, 2, none⟩ (.int .i64 0)).setCell ⟨w.heap.size, 1, none⟩ (.bool false) = w2 at HB2 HX2 ⊢
    refine (split_any C1 q 0 w.heap.size w2 (HQV.out.below HB2.out (Nat.le_refl _)) HB2.out.size).mono ?_
    rintro e w3 ⟨v, rfl, hv, hb3⟩
    rw [HSP.out] at hv ⊢
    simp only at hv ⊢
    obtain ⟨xs, hown, hrow⟩ := hv
    rw [splitL_length] at hown
    have hN : 0 < piecesN n ∧ piecesN n ≤ 6 := by unfold piecesN; split <;> omega
    obtain ⟨g, cc, cur, rfl, _⟩ := ownk_some hown hN.1
    obtain ⟨ad, had⟩ : ∃ ad : Addr, ad = ⟨g, 0, none⟩ := ⟨_, rfl⟩
    have hrdx := (Tr.own hown).rd
    rw [← had] at hrdx ⊢
    have HX3 := Lib.hid ((hb3.block _ (row_lt HX2.out)).trans HX2.out)
    have HB3 := Lib.hid (HB2.out.trans (hb3.mono HB2.out.size))
    have HRX := Lib.hid (hrdx.wide (Nat.zero_le _) (Nat.le_refl _))
    have HROW := Lib.hid hrow
    obtain ⟨N, hNN⟩ : ∃ N, piecesN n = N := ⟨_, rfl⟩
    rw [hNN] at hN HROW ⊢
    have HNN := Lib.hid hNN
    obtain ⟨hN0, hN6⟩ := hN
    obtain ⟨hu1, hu2⟩ := u64_range a1
    obtain ⟨k, hk1, hk2⟩ := rem_small (IntKind.u64.wrap a1) N hN0
    have HT1 : Hid (IntKind.u64.wrap (N : Int) = (N : Int)) := IntWalk.u64_in _ ⟨by omega, by omega⟩
    have HT2 : Hid ((IntKind.u64.wrap a1).tmod (N : Int) = (k : Int)) := by show _ = _; rw [Int.tmod_eq_emod_of_nonneg hu1]; exact hk1
    have ht1 := HT1.out
    have ht2 := HT2.out
    have ht2' := hk1
    have hw3 : IntKind.u64.wrap (k : Int) = (k : Int) := IntWalk.u64_in _ ⟨by omega, by omega⟩
    have hw4 : IntKind.i64.wrap (k : Int) = (k : Int) := IntWalk.i64_in _ ⟨by omega, by omega⟩
    have hN0' : ¬ N = 0 := by omega
    have hkN : k < N := by omega
    obtain ⟨st, hst⟩ := plan_any q (by rw [HQF.out.2.2.2.1, HBN.out]; exact hl1) HQF.out.2.2.2.2.1 HQF.out.2.2.2.2.2 k (by rw [HQF.out.2.2.2.1, HBN.out, HNN.out]; exact hkN)
    rw [HQF.out.2.2.2.1, HBN.out, HNN.out] at hst
    have HST := Lib.hid hst
    have HPO : Hid (∀ m, m < N → 0 ≤ (pieceP q m).off ∧ endP (pieceP q m) ≤ 1000 ∧ (((pieceP q m).off = 0 ∧ (pieceP q m).more = false) ∨ formedB (pieceP q m) = true)) := fun m hm => piece_ok q (by rw [HQF.out.2.2.2.1, HBN.out]; exact hl1) m (by rw [HQF.out.2.2.2.1, HBN.out, HNN.out]; exact hm)
    clear hb3 hown hrow had hrdx hNN hc1 hc2 hf1 hf2 hc13 hst hk1
    go_wp2_with fail
    go_loopw [9, 49] (fun t9 t49 wr => ∃ i : Nat, i ≤ N ∧ t49 = .int .i64 (i : Int) ∧ Hid (HksT wr t9 (if i = N then [] else st i)) ∧ Hid (Below w3.heap.size w3 wr)) (fun _ t49 _ => N - (intOf t49).toNat)
    case atStart => exact ⟨0, Nat.zero_le _, rfl, Lib.hid (by rw [if_neg (by omega), HST.out.zero]; exact ⟨none, 0, [], rfl, Tr.nil, RowOf.nil, Nat.le_refl _, Nat.zero_le _, fun _ => rfl⟩), Lib.hid (Below.refl _ _)⟩
    case round =>
      obtain ⟨i, hiN, rfl, HH9, HBR⟩ := hrel
      generalize u9 = v9 at HH9 ⊢
      by_cases hlt : i < N
      · obtain ⟨r, hr⟩ : ∃ r, (i + k) % N = r := ⟨_, rfl⟩
        have hrN : r < N := by rw [← hr]; exact Nat.mod_lt _ hN0
        obtain ⟨m, hm⟩ : ∃ m, N - 1 - r = m := ⟨_, rfl⟩
        have hmN : m < N := by omega
        have r1 : ((i : Int) + (k : Int)).tmod (N : Int) = (r : Int) := by rw [Int.tmod_eq_emod_of_nonneg (by omega), ← hr]; simp
        have r1' : ((i : Int) + (k : Int)) % (N : Int) = (r : Int) := by rw [← hr]; simp
        have r2 : (N : Int) - 1 - (r : Int) = (m : Int) := by omega
        have HMI : Hid (N - 1 - (i + k) % N = m) := by show _ = _; rw [hr]; exact hm
        have hnl : (N : Int) ≤ 6 := by omega
        have HRP : Hid (PkT w3 w2.heap.size ((xs.drop (m * 14)).take 14) (pieceP q m)) := HROW.out.2 m _ (by simp [splitL, hmN])
        obtain ⟨ds, hds⟩ : ∃ ds, (xs.drop (m * 14)).take 14 = ds := ⟨_, rfl⟩
        rw [hds] at HRP
        have HEL : Hid (∀ j v, ds[j]? = some v → wr.cell? ((ad.add (m * 14)).add j) = some v) := by
          rw [← hds]
          exact ((HRX.out.below HBR.out (Nat.le_refl _)).elem m)
        rw [if_neg (by omega)] at HH9
        have HDL : Hid (ds.toArray.size = 14) := by show _ = _; simpa using HRP.out.len
        clear hr hm hds
        go_upto_region 14 with (first | refine wpList_load_at rfl 27 _ rfl (ad.add (m * 14)) rfl ds _ HEL.out Try.underlying27 rfl (by rw [HRP.out.len]; kernel_rfl) ?_ | refine wpList_store_new rfl 27 _ _ rfl wr #[.int .u16 0, .bool false, .int .i64 0, .int .u8 0, .int .u8 0, .int .u8 0, .int .u8 0, .int .u8 0, .int .u8 0, .int .u8 0, .int .u8 0, .int .u8 0, .int .u8 0, .slice none 0 0] ds.toArray rfl rfl (size_pk HDL.out) (by rw [HDL.out]; rfl) (by have := HRP.out.pkV.one; simpa using this) ?_)
        have y1 : (i : Int).tmod 32 = (i : Int) := by rw [Int.tmod_eq_emod_of_nonneg (by omega)]; omega
        have y2 : (i : Int) % 32 = (i : Int) := by omega
        obtain ⟨bx, hbx⟩ : ∃ bx, wr.heap.size = bx := ⟨_, rfl⟩
        obtain ⟨w5, hw5⟩ : ∃ w5, wr.alloc (.cells ds.toArray 27) = w5 := ⟨_, rfl⟩
        have hb5 : Below wr.heap.size wr w5 := by rw [← hw5]; exact (Below.refl _ _).alloc (Nat.le_refl _) _
        have HX5 : Hid (w5.heap[bx]? = some (.cells ds.toArray 27 (0, 0))) := by show _ = _; rw [← hw5, ← hbx]; exact heap_alloc_new wr _
        have HB5 := Lib.hid (HBR.out.trans (hb5.mono HBR.out.size))
        have HH5 := Lib.hid (HH9.out.below hb5)
        rw [hw5, hbx]
        have HPK : Hid (∀ W, Below w3.heap.size w3 W → PkV W w2.heap.size w3.heap.size ds.toArray (pieceP q m)) := fun W hW => HRP.out.pkV.below hW (Nat.le_refl _)
        have HPO2 := Lib.hid (HPO.out m hmN)
        have hnew := HST.out.new i hlt
        rw [HMI.out] at hnew
        have HNEW := Lib.hid hnew
        clear hbx hw5 hb5 hnew r1 r1' r2 HH9
        by_cases hla : i + 1 = N
        · have q13 : ((i : Int) == (N : Int) - 1) = true := beqT (by omega)
          rw [q13]
          go_cut [85] (fun t85 wx => t85 = .bool false ∧ w5 = wx)
          case first =>
            go_wp2_with fail
            all_goals
              go_meet
              case rel => exact ⟨rfl, rfl⟩
          case rest =>
          obtain ⟨rfl, rfl⟩ := hcut
          rw [if_pos hla] at HNEW
          go_wp2_with (first | refine wpList_load_row rfl 27 _ rfl bx rfl 27 ds.toArray (0, 0) _ HX5.out Try.underlying27 rfl (size_pk HDL.out) ?_)
          refine (add_any v9 (st i) ds.toArray (pieceP q m) w2.heap.size w3.heap.size 5 w5 HH5.out (HST.out.small i).1 (HST.out.small i).2 (HPK.out w5 HB5.out) HB5.out.size HPO2.out.1 HPO2.out.2.1 HPO2.out.2.2 (by decide)).mono ?_
          rw [HNEW.out]
          rintro e' w6 ⟨v6, es, rfl, hh6, hp6, hb6⟩
          obtain ⟨by6, hby6⟩ : ∃ by6, w6.heap.size = by6 := ⟨_, rfl⟩
          obtain ⟨w7, hw7⟩ : ∃ w7, w6.alloc (.cells es 27) = w7 := ⟨_, rfl⟩
          have hb7 : Below w6.heap.size w6 w7 := by rw [← hw7]; exact (Below.refl _ _).alloc (Nat.le_refl _) _
          have HY7 : Hid (w7.heap[by6]? = some (.cells es 27 (0, 0))) := by show _ = _; rw [← hw7, ← hby6]; exact heap_alloc_new w6 _
          have HB6 := Lib.hid (HB5.out.trans (hb6.mono HB5.out.size))
          have HB7 := Lib.hid (HB6.out.trans (hb7.mono HB6.out.size))
          have HH7 := Lib.hid (hh6.below hb7)
          have HP7 := Lib.hid (hp6.below hb7 (Nat.le_refl _))
          have HS6 : Hid (w6.heap.size ≤ w7.heap.size) := hb7.size
          have HES : Hid (es.size = 14) := hp6.size
          have HEO : Hid (es.all (·.oneCell') = true) := hp6.one
          have HX7 := Lib.hid ((HB7.out.block _ (row_lt HX3.out)).trans HX3.out)
          have HW7 := Lib.hid hw7
          have HBY := Lib.hid hby6
          clear hh6 hp6 hb6 hb7 hw7 hby6
          go_upto_region 20 with (first | refine wpList_store_new rfl 27 _ _ rfl w6 #[.int .u16 0, .bool false, .int .i64 0, .int .u8 0, .int .u8 0, .int .u8 0, .int .u8 0, .int .u8 0, .int .u8 0, .int .u8 0, .int .u8 0, .int .u8 0, .int .u8 0, .slice none 0 0] es rfl rfl (size_pk HES.out) (by rw [HES.out]; rfl) HEO.out ?_)
          rw [HW7.out, HBY.out]
          go_wp2_with (first | refine wpList_load_rowg (by rfl) 27 _ rfl by6 rfl 27 es (0, 0) _ HY7.out Try.underlying27 rfl (size_pk HES.out) ?_ | refine wpList_load_rowg (by rfl) 27 _ rfl w.heap.size rfl 27 C1 (0, 0) _ HX7.out Try.underlying27 rfl (size_pk HQV.out.size) ?_)
          refine (same_any es C1 q q 0 w6.heap.size 0 w.heap.size w7 HP7.out (HQV.out.below (HB3.out.trans (HB7.out.mono HB3.out.size)) (Nat.le_refl _)) HS6.out (Nat.le_trans HB3.out.size HB7.out.size)).mono ?_
          rw [pkEq_self]
          rintro e' w8 ⟨rfl, hb8⟩
          have HB8 := Lib.hid (HB7.out.trans (hb8.mono HB7.out.size))
          have HH8 := Lib.hid (HH7.out.below hb8)
          clear hb8
          go_wp2
          go_roundw
          case rel => exact ⟨i + 1, by omega, by go_num, Lib.hid (by rw [if_pos hla]; exact HH8.out), HB8⟩
          case measure => simp [intOf]; omega
        · have q13 : ((i : Int) == (N : Int) - 1) = false := beqF (by omega)
          rw [q13]
          rw [if_neg hla] at HNEW
          have htw := HST.out.twice i (by omega)
          rw [HMI.out] at htw
          have HTW := Lib.hid htw
          clear htw
          have hN1 : (1 : Int) < (N : Int) := by omega
          go_cut [85] (fun t85 wx => (∃ b, t85 = .bool b) ∧ w5 = wx)
          case first =>
            go_wp2_with fail
            all_goals
              go_meet
              case rel => exact ⟨⟨_, rfl⟩, rfl⟩
          case rest =>
          obtain ⟨⟨bb, rfl⟩, rfl⟩ := hcut
          go_upto_if 85 with (fail)
          go_cut [9] (fun t9 wx => ∃ hs', Hid (HksT wx t9 hs') ∧ Hid (hs' = st i ∨ hs' = st (i + 1)) ∧ Hid (Below w5.heap.size w5 wx))
          case first =>
            rcases bb with _ | _
            · go_wp2_with fail
              go_meet
              case rel => exact ⟨st i, HH5, Lib.hid (.inl rfl), Lib.hid (Below.refl _ _)⟩
            · go_wp2_with (first | refine wpList_load_row rfl 27 _ rfl bx rfl 27 ds.toArray (0, 0) _ HX5.out Try.underlying27 rfl (size_pk HDL.out) ?_)
              refine (add_any v9 (st i) ds.toArray (pieceP q m) w2.heap.size w3.heap.size 5 w5 HH5.out (HST.out.small i).1 (HST.out.small i).2 (HPK.out w5 HB5.out) HB5.out.size HPO2.out.1 HPO2.out.2.1 HPO2.out.2.2 (by decide)).mono ?_
              rw [HNEW.out]
              rintro e' w6 ⟨v6, es, rfl, hh6, hp6, hb6⟩
              have hb7 : Below w6.heap.size w6 (w6.alloc (.cells es 27)) := (Below.refl _ _).alloc (Nat.le_refl _) _
              have HB7 := Lib.hid (hb6.trans (hb7.mono hb6.size))
              have HH7 := Lib.hid (hh6.below hb7)
              have HES : Hid (es.size = 14) := hp6.size
              have HEO : Hid (es.all (·.oneCell') = true) := hp6.one
              clear hh6 hp6 hb6 hb7
              go_wp2_with (first | refine wpList_store_new rfl 27 _ _ rfl w6 #[.int .u16 0, .bool false, .int .i64 0, .int .u8 0, .int .u8 0, .int .u8 0, .int .u8 0, .int .u8 0, .int .u8 0, .int .u8 0, .int .u8 0, .int .u8 0, .int .u8 0, .slice none 0 0] es rfl rfl (size_pk HES.out) (by rw [HES.out]; rfl) HEO.out ?_)
              go_meet
              case rel => exact ⟨st (i + 1), HH7, Lib.hid (.inr rfl), HB7⟩
          case rest =>
          obtain ⟨hs', HH6, HOR, HB56⟩ := hcut
          generalize u9 = v9' at HH6 ⊢
          have HAD : Hid (addP hs' (pieceP q m) 5 = (st (i + 1), Pk.zero, false, 0)) := by
            rcases HOR.out with h | h
            · rw [h]; exact HNEW.out
            · rw [h]; exact HTW.out
          have HSM : Hid (hs'.length ≤ 8 ∧ ∀ h ∈ hs', h.got.length < 1000) := by
            rcases HOR.out with h | h
            · rw [h]; exact HST.out.small i
            · rw [h]; exact HST.out.small (i + 1)
          have HX6 := Lib.hid ((HB56.out.block _ (row_lt HX5.out)).trans HX5.out)
          have HB6 := Lib.hid (HB5.out.trans (HB56.out.mono HB5.out.size))
          go_wp2_with (first | refine wpList_load_row rfl 27 _ rfl bx rfl 27 ds.toArray (0, 0) _ HX6.out Try.underlying27 rfl (size_pk HDL.out) ?_)
          refine (add_any v9' hs' ds.toArray (pieceP q m) w2.heap.size w3.heap.size 5 wc HH6.out HSM.out.1 HSM.out.2 (HPK.out wc HB6.out) HB6.out.size HPO2.out.1 HPO2.out.2.1 HPO2.out.2.2 (by decide)).mono ?_
          rw [HAD.out]
          rintro e' w6 ⟨v6, es, rfl, hh6, hp6, hb6⟩
          have hb7 : Below w6.heap.size w6 (w6.alloc (.cells es 27)) := (Below.refl _ _).alloc (Nat.le_refl _) _
          have HB7 := Lib.hid ((HB6.out.trans (hb6.mono HB6.out.size)).trans (hb7.mono (HB6.out.trans (hb6.mono HB6.out.size)).size))
          have HH7 := Lib.hid (hh6.below hb7)
          have HES : Hid (es.size = 14) := hp6.size
          have HEO : Hid (es.all (·.oneCell') = true) := hp6.one
          clear hh6 hp6 hb6 hb7
          go_wp2_with (first | refine wpList_store_new rfl 27 _ _ rfl w6 #[.int .u16 0, .bool false, .int .i64 0, .int .u8 0, .int .u8 0, .int .u8 0, .int .u8 0, .int .u8 0, .int .u8 0, .int .u8 0, .int .u8 0, .int .u8 0, .int .u8 0, .slice none 0 0] es rfl rfl (size_pk HES.out) (by rw [HES.out]; rfl) HEO.out ?_)
          go_roundw
          case rel => exact ⟨i + 1, by omega, by go_num, Lib.hid (by rw [if_neg hla]; exact HH7.out), HB7⟩
          case measure => simp [intOf]; omega
      · obtain rfl : i = N := by omega
        rw [if_pos rfl] at HH9
        obtain ⟨A8, c8, xs8, hv8, _⟩ := HH9.out
        have hv9 : v9 = .slice A8 0 c8 := hv8
        subst hv9
        have HBF := Lib.hid (HB3.out.trans (HBR.out.mono HB3.out.size))
        clear HH9 hv8
        go_wp2
        go_ret
        exact ⟨rfl, HBF.out⟩
end Go.Proofs.Ytogplhdcicajgaa
