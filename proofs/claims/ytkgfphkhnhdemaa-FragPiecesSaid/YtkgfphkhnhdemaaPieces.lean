/-
  FragPieces returns true for every packet, and turns nothing that was there.
-/
import Derived.Test.YtkgfphkhnhdemaaLives
import Derived.Test.YtkgfphkhnhdemaaPkShape
import Derived.Deep.QuietTactic
namespace Go.Proofs.Ytkgfphkhnhdemaa
open Go.RowKit

theorem pkS_2 (p : Pk) (v : Value) (o : Int) : (pkC p v).toArray.setIfInBounds 2 (.int .i64 o) = (pkC { p with off := o } v).toArray := by
  rw [List.setIfInBounds_toArray]
  rfl
theorem pkS_1 (p : Pk) (v : Value) (m : Bool) : (pkC p v).toArray.setIfInBounds 1 (.bool m) = (pkC { p with more := m } v).toArray := by
  rw [List.setIfInBounds_toArray]
  rfl

set_option maxRecDepth 100000 in
set_option maxHeartbeats 4000000 in
theorem pieces_any (cs : Array Value) (p : Pk) (w : World) (h : PkV w 0 w.heap.size cs p) :
    Calls Try.prog 6 #[.agg cs] w fun e w' => e = .returned (.bool true) ∧ Below w.heap.size w w' := by
  have h2 := h.off_cell
  obtain ⟨A, c, h1, _, h13, hrd, hlc, hm, hA⟩ := h.parts
  obtain ⟨n, hbn⟩ : ∃ n, p.data.length = n := ⟨_, rfl⟩
  rw [hbn] at h13 hlc
  have HBN := Lib.hid hbn
  have hn2 : n ≤ 9223372036854775807 := by unfold maxLen at hm; omega
  have HF := Lib.hid h
  have HB0 := Lib.hid ((Below.refl w.heap.size w).alloc (Nat.le_refl _) (.cells cs 27))
  have HG0 := Lib.hid (heap_alloc_new w (.cells cs 27))
  have H13 := Lib.hid h13
  have H1 := Lib.hid h1
  have H2 := Lib.hid h2
  have HRD := Lib.hid hrd
  have HCC := Lib.hid (And.intro hlc hm)
  clear h hbn hlc hm h13 h1 h2 hrd hA
  by_cases hi : 1000 < n
  all_goals
    go_enter Try.func6, Try.ntmps6
    go_wp2_with fail
    refine (lives_any _).mono ?_
    rintro e w1 ⟨rfl, hb1⟩
    have hx1 := (hb1.block _ (row_lt HG0.out)).trans HG0.out
    have hc13 : w1.cell? ⟨w.heap.size, 13, none⟩ = some (.slice A n c) := by
      rw [cell_of_row _ _ _ _ _ _ hx1]
      exact H13.out
    have HX1 := Lib.hid hx1
    have HB1 := Lib.hid (HB0.out.trans (hb1.mono HB0.out.size))
    clear hb1 hx1
  · go_wp2_with fail
    refine (lives_any _).mono ?_
    rintro e w2 ⟨rfl, hb2⟩
    have HB := Lib.hid (HB1.out.trans (hb2.mono HB1.out.size))
    clear hb2
    go_wp2
    go_ret
    exact ⟨rfl, HB.out⟩
  · have hl1 : n ≤ 1000 := by omega
    clear hi
    obtain ⟨A0, c0, he, hok, hoff, hrd0, hlc0, hcm0, hA0⟩ := HF.out
    rw [HBN.out] at he hlc0
    have hAA : A0 = A ∧ c0 = c := by
      have h := H13.out
      rw [he, List.getElem?_toArray, pkC_13 hok] at h
      injection h with h
      injection h with h1 h2 h3
      exact ⟨h1, h3⟩
    obtain ⟨rfl, rfl⟩ := hAA
    obtain ⟨q, hq⟩ : ∃ q : Pk, q = { { p with off := (0 : Int) } with more := false } := ⟨_, rfl⟩
    have hy1 := heap_setCell_same w1 w.heap.size 2 cs 27 (.int .i64 0) HX1.out
    have hy2 := heap_setCell_same _ w.heap.size 1 _ 27 (.bool false) hy1
    have HB2 : Hid (Below w.heap.size w ((w1.setCell ⟨w.heap.size, 2, none⟩ (.int .i64 0)).setCell ⟨w.heap.size, 1, none⟩ (.bool false))) := (HB1.out.setCell (Nat.le_refl _) _).setCell (Nat.le_refl _) _
    rw [he, pkS_2, pkS_1, ← hq] at hy2
    have hqf : q.id = p.id ∧ q.src = p.src ∧ q.dst = p.dst ∧ q.data = p.data ∧ q.off = 0 ∧ q.more = false := by rw [hq]; exact ⟨rfl, rfl, rfl, rfl, rfl, rfl⟩
    have HQF := Lib.hid hqf
    obtain ⟨C1, hC1⟩ : ∃ C1, (pkC q (.slice A0 n c0)).toArray = C1 := ⟨_, rfl⟩
    rw [hC1] at hy2
    have HX2 := Lib.hid hy2
    have HC1 := Lib.hid hC1
    have HQV : Hid (PkV w 0 w.heap.size C1 q) := by
      show PkV _ _ _ _ _
      rw [← hC1]
      refine ⟨A0, c0, by rw [hqf.2.2.2.1, HBN.out], ?_, by rw [hqf.2.2.2.2.1]; omega, by rw [hqf.2.2.2.1]; exact hrd0, by rw [hqf.2.2.2.1, HBN.out]; exact hlc0, hcm0, hA0⟩
      rw [hq]
      exact hok
    have HSP : Hid (splitP q = (splitL q (piecesN n), 0)) := by
      show _ = _
      unfold splitP
      rw [if_neg (by rw [hqf.2.2.2.2.1, hqf.2.2.2.2.2]; simp), hqf.2.2.2.1, HBN.out, if_neg (by omega)]
    have hc2 : w1.cell? ⟨w.heap.size, 2, none⟩ = some (.int .i64 p.off) := by rw [cell_of_row _ _ _ _ _ _ HX1.out]; exact H2.out
    have hc1 : w1.cell? ⟨w.heap.size, 1, none⟩ = some (.bool p.more) := by rw [cell_of_row _ _ _ _ _ _ HX1.out]; exact H1.out
    have hf2 := frozen_of_row _ _ 2 _ _ HX1.out
    have hf1 := frozen_of_row _ _ 1 _ _ HX1.out
    clear he hok hoff hrd0 hlc0 hcm0 hA0 hq hy1 hy2 hqf hC1
    go_wp2_with (refine wpList_load_row rfl 27 _ rfl w.heap.size rfl 27 C1 (0, 0) _ HX2.out Try.underlying27 rfl (size_pk HQV.out.size) ?_)
    generalize (w1.setCell ⟨w.heap.size, 2, none⟩ (.int .i64 0)).setCell ⟨w.heap.size, 1, none⟩ (.bool false) = w2 at HB2 HX2 ⊢
    refine (split_any C1 q 0 w.heap.size w2 (HQV.out.below HB2.out (Nat.le_refl _)) HB2.out.size).mono ?_
    rintro e w3 ⟨v, rfl, hv, hb3⟩
    rw [HSP.out] at hv ⊢
    simp only at hv ⊢
    obtain ⟨xs, hown, hrow⟩ := hv
    rw [splitL_length] at hown
    have hN : 0 < piecesN n ∧ piecesN n ≤ 6 := by unfold piecesN; split <;> omega
    obtain ⟨g, cc, cur, rfl, _⟩ := ownk_some hown hN.1
    obtain ⟨ad, had⟩ : ∃ ad : Addr, ad = ⟨g, 0, none⟩ := ⟨_, rfl⟩
    have hrdx := (Tr.own hown).rd
    rw [← had] at hrdx ⊢
    have HX3 := Lib.hid ((hb3.block _ (row_lt HX2.out)).trans HX2.out)
    have HB3 := Lib.hid (HB2.out.trans (hb3.mono HB2.out.size))
    have HRX := Lib.hid (hrdx.wide (Nat.zero_le _) (Nat.le_refl _))
    have HROW := Lib.hid hrow
    obtain ⟨N, hNN⟩ : ∃ N, piecesN n = N := ⟨_, rfl⟩
    rw [hNN] at hN HROW ⊢
    have HNN := Lib.hid hNN
    obtain ⟨hN0, hN6⟩ := hN
    clear hb3 hown hrow had hrdx hNN hc1 hc2 hf1 hf2 hc13
    go_wp2
    go_loopw [5, 26] (fun t5 t26 wr => ∃ k o : Nat, k ≤ N ∧ t26 = .int .i64 (k : Int) ∧ t5 = .int .i64 (o : Int) ∧ o ≤ n ∧ Hid (o = min (176 * k) n) ∧ Hid (Below w3.heap.size w3 wr)) (fun _ t26 _ => N - (intOf t26).toNat)
    case atStart => exact ⟨0, 0, Nat.zero_le _, rfl, rfl, Nat.zero_le _, Lib.hid (by omega), Lib.hid (Below.refl _ _)⟩
    case round =>
      obtain ⟨k, o, hk, rfl, rfl, hon, HO, HBR⟩ := hrel
      by_cases hlt : k < N
      · obtain ⟨r, hr⟩ : ∃ r, pieceP q k = r := ⟨_, rfl⟩
        have HRP : Hid (PkT w3 w2.heap.size ((xs.drop (k * 14)).take 14) r) := HROW.out.2 k r (by rw [← hr]; simp [splitL, hlt])
        obtain ⟨ds, hds⟩ : ∃ ds, (xs.drop (k * 14)).take 14 = ds := ⟨_, rfl⟩
        rw [hds] at HRP
        have HEL : Hid (∀ j v, ds[j]? = some v → wr.cell? ((ad.add (k * 14)).add j) = some v) := by
          rw [← hds]
          exact ((HRX.out.below HBR.out (Nat.le_refl _)).elem k)
        have HR := Lib.hid hr
        clear hr hds
        go_wp2_with (first | refine wpList_load_at rfl 27 _ rfl (ad.add (k * 14)) rfl ds _ HEL.out Try.underlying27 rfl (by rw [HRP.out.len]; kernel_rfl) ?_ | refine wpList_store_new rfl 27 _ _ rfl wr #[.int .u16 0, .bool false, .int .i64 0, .int .u8 0, .int .u8 0, .int .u8 0, .int .u8 0, .int .u8 0, .int .u8 0, .int .u8 0, .int .u8 0, .int .u8 0, .int .u8 0, .slice none 0 0] ds.toArray rfl rfl (size_pk (by simpa using HRP.out.len)) (by simp [HRP.out.len]) (all_one HRP.out.one) ?_)
        obtain ⟨v13, he, hrok, hroff, A2, c2, rfl, htr, hlc2, hcm2, hA2⟩ := HRP.out
        obtain ⟨b, hb⟩ : ∃ b, wr.heap.size = b := ⟨_, rfl⟩
        have hNv := HNN.out
        have hof : o = 176 * k := by
          have h := HO.out
          unfold piecesN at hNv
          split at hNv <;> omega
        have hro : r.off = (o : Int) := by rw [← HR.out, hof]; rfl
        have hrl : r.data = (p.data.drop o).take 176 := by rw [← HR.out, hof, ← HQF.out.2.2.2.1]; rfl
        obtain ⟨m2, hm2⟩ : ∃ m2, r.data.length = m2 := ⟨_, rfl⟩
        have hm2v : m2 = min 176 (n - o) := by rw [← hm2, hrl, List.length_take, List.length_drop, HBN.out]
        obtain ⟨mr, hmr⟩ : ∃ mr, r.more = mr := ⟨_, rfl⟩
        have hmrv : decide ((k : Int) < (N : Int) - 1) = mr := by
          rw [← hmr, ← HR.out]
          show _ = decide (176 * (k + 1) < q.data.length)
          rw [HQF.out.2.2.2.1, HBN.out]
          congr 1
          apply propext
          unfold piecesN at hNv
          split at hNv <;> omega
        have hrid : r.id = p.id ∧ r.src = p.src ∧ r.dst = p.dst := by rw [← HR.out]; exact ⟨HQF.out.1, HQF.out.2.1, HQF.out.2.2.1⟩
        obtain ⟨s0, s1, s2, s3, hs⟩ := four_of r.src hrok.2.1
        obtain ⟨d0, d1, d2, d3, hd⟩ := four_of r.dst hrok.2.2
        have hG : (wr.alloc (.cells ds.toArray 27)).heap[b]? = some (.cells ds.toArray 27 (0, 0)) := by rw [← hb]; exact heap_alloc_new _ _
        have hX : (wr.alloc (.cells ds.toArray 27)).heap[w.heap.size]? = some (.cells C1 27 (0, 0)) := old_alloc ((HBR.out.block _ (row_lt HX3.out)).trans HX3.out) _
        have hBQ := HBR.out.alloc HBR.out.size (.cells ds.toArray 27)
        rw [hb]
        generalize wr.alloc (.cells ds.toArray 27) = wq at hG hX hBQ ⊢
        have HG := Lib.hid hG
        have HX := Lib.hid hX
        have HBQ := Lib.hid hBQ
        have HE : Hid (ds = [.int .u16 r.id, .bool mr, .int .i64 (o : Int), .int .u8 (r.ttl.toNat : Int), .int .u8 (r.proto.toNat : Int), .int .u8 (s0.toNat : Int), .int .u8 (s1.toNat : Int), .int .u8 (s2.toNat : Int), .int .u8 (s3.toNat : Int), .int .u8 (d0.toNat : Int), .int .u8 (d1.toNat : Int), .int .u8 (d2.toNat : Int), .int .u8 (d3.toNat : Int), .slice A2 m2 c2]) := by
          show _ = _
          rw [he, ← hm2, ← hmr, ← hro]
          unfold pkC
          rw [hs, hd]
          rfl
        have HC : Hid (C1.toList = [.int .u16 r.id, .bool false, .int .i64 0, .int .u8 (q.ttl.toNat : Int), .int .u8 (q.proto.toNat : Int), .int .u8 (s0.toNat : Int), .int .u8 (s1.toNat : Int), .int .u8 (s2.toNat : Int), .int .u8 (s3.toNat : Int), .int .u8 (d0.toNat : Int), .int .u8 (d1.toNat : Int), .int .u8 (d2.toNat : Int), .int .u8 (d3.toNat : Int), .slice A0 n c0]) := by
          show _ = _
          rw [← HC1.out]
          unfold pkC
          rw [HQF.out.1, HQF.out.2.1, HQF.out.2.2.1, HQF.out.2.2.2.2.1, HQF.out.2.2.2.2.2, ← hrid.1, ← hrid.2.1, ← hrid.2.2, hs, hd]
          rfl
        have gb : ∀ j v, ds[j]? = some v → wq.cell? ⟨b, j, none⟩ = some v := fun j v h => by rw [cell_of_row _ _ _ _ _ _ HG.out, List.getElem?_toArray]; exact h
        have gp : ∀ j v, C1.toList[j]? = some v → wq.cell? ⟨w.heap.size, j, none⟩ = some v := fun j v h => by rw [cell_of_row _ _ _ _ _ _ HX.out, ← Array.getElem?_toList]; exact h
        rw [HE.out] at gb
        rw [HC.out] at gp
        have b0 := gb 0 _ rfl
        have b1 := gb 1 _ rfl
        have b2 := gb 2 _ rfl
        have b5 := gb 5 _ rfl
        have b6 := gb 6 _ rfl
        have b7 := gb 7 _ rfl
        have b8 := gb 8 _ rfl
        have b9 := gb 9 _ rfl
        have b10 := gb 10 _ rfl
        have b11 := gb 11 _ rfl
        have b12 := gb 12 _ rfl
        have b13 := gb 13 _ rfl
        have p0 := gp 0 _ rfl
        have p5 := gp 5 _ rfl
        have p6 := gp 6 _ rfl
        have p7 := gp 7 _ rfl
        have p8 := gp 8 _ rfl
        have p9 := gp 9 _ rfl
        have p10 := gp 10 _ rfl
        have p11 := gp 11 _ rfl
        have p12 := gp 12 _ rfl
        have p13 := gp 13 _ rfl
        have q6 := eqv_ip 9998 s0 s1 s2 s3 s0 s1 s2 s3 true (decide_eq_true rfl)
        have q7 := eqv_ip 9998 d0 d1 d2 d3 d0 d1 d2 d3 true (decide_eq_true rfl)
        have hbm : (mr != mr) = false := by simp
        have hm180 : m2 ≤ 176 := by omega
        have hd180 : decide ((180 : Int) < (m2 : Int)) = false := decide_eq_false (by omega)
        have hom : o + m2 ≤ n := by omega
        have HOM : Hid (o + m2 = min (176 * (k + 1)) n) := by show _ = _; omega
        have hwN : IntKind.i64.wrap ((N : Int) - 1) = (N : Int) - 1 := IntWalk.i64_in _ ⟨by omega, by omega⟩
        have hwO : IntKind.i64.wrap ((o : Int) + (m2 : Int)) = (o : Int) + (m2 : Int) := IntWalk.i64_in _ ⟨by omega, by omega⟩
        have hs0 : (0 : Int) ≤ (o : Int) + (m2 : Int) := by omega
        have hs1 : (o : Int) + (m2 : Int) ≤ (c0 : Int) := by have := HC.out; have := HCC.out; omega
        have hs2 : (o : Int) ≤ (o : Int) + (m2 : Int) := by omega
        have hs3 : ((o : Int) + (m2 : Int)).toNat = o + m2 := by omega
        have hrr2 : Rd wq 0 wq.heap.size A2 (cells r.data) := ((htr.rd.wide (Nat.zero_le _) (Nat.le_refl _)).below HBQ.out (Nat.le_refl _)).wide (Nat.le_refl _) HBQ.out.size
        have hrr0 : Rd wq 0 wq.heap.size A0 (cells p.data) := (HRD.out.below (HB3.out.trans (HBQ.out.mono HB3.out.size)) (Nat.le_refl _)).wide (Nat.le_refl _) (HB3.out.trans (HBQ.out.mono HB3.out.size)).size
        obtain ⟨A3, hA3⟩ : ∃ A3, (if c0 = o then A0 else A0.map (·.add (o * 1))) = A3 := ⟨_, rfl⟩
        have hrr3 : Rd wq 0 wq.heap.size A3 (cells r.data) := by
          rw [← hA3, hrl, ← cells_take, ← cells_drop]
          have := hrr0.part (size := 1) c0 o 176 (fun h => by
            rw [Nat.mul_one]
            refine List.drop_eq_nil_of_le ?_
            rw [cells_length, HBN.out]
            have := HCC.out
            omega)
          simp only [Nat.mul_one] at this ⊢
          exact this
        have ht1 : ∀ j, (convert 25 9 (.slice A2 m2 c2)).run Try.prog (wq.drewN j) = .ok (.string ⟨r.data.toArray⟩) (wq.drewN j) := fun j => by
          have := run_text (P := Try.prog) (wq.drewN j) 25 9 5 c2 Try.underlying25 Try.underlying5 Try.underlying9 (hrr2.drewN j)
          rwa [hm2] at this
        have ht3 : ∀ j, (convert 25 9 (.slice A3 m2 (c0 - o))).run Try.prog (wq.drewN j) = .ok (.string ⟨r.data.toArray⟩) (wq.drewN j) := fun j => by
          have := run_text (P := Try.prog) (wq.drewN j) 25 9 5 (c0 - o) Try.underlying25 Try.underlying5 Try.underlying9 (hrr3.drewN j)
          rwa [hm2] at this
        simp only [Nat.mul_one] at hA3
        have ht10 := ht1 0
        have ht30 := ht3 0
        clear hrr2 hrr0 hrr3 gb gp hG hX hBQ he hrok hroff htr hlc2 hcm2 hA2 hNv hof hro hrl hm2 hm2v hmr hrid hs hd hb
        go_quiet (fail)
        rename_i nq
        have HB4 := Lib.hid (below_drewN' HBQ.out nq)
        have z2 : (wq.drewN nq).cell? ⟨b, 13, none⟩ = some (.slice A2 m2 c2) := b13
        clear b0 b1 b2 b5 b6 b7 b8 b9 b10 b11 b12 b13 p0 p5 p6 p7 p8 p9 p10 p11 p12 p13 q6 q7 hbm ht1 ht3 ht10 ht30 hA3 hmrv hd180 hwN HG HX HBQ
        generalize wq.drewN nq = w5 at HB4 z2 ⊢
        have HO2 : Hid (o + m2 = min (176 * (k + 1)) n) := HOM.out
        go_wp2
        go_roundw
        case rel => exact ⟨k + 1, o + m2, by omega, by go_num, by go_num, hom, HO2, HB4⟩
        case measure => simp [intOf]; omega
      · obtain rfl : k = N := by omega
        have hon2 : o = n := by
          have h := HO.out
          have hNv := HNN.out
          unfold piecesN at hNv
          split at hNv <;> omega
        subst hon2
        have x13 : wr.cell? ⟨w.heap.size, 13, none⟩ = some (.slice A0 o c0) := by
          rw [cell_of_row _ _ _ _ _ _ ((HBR.out.block _ (row_lt HX3.out)).trans HX3.out), ← HC1.out, List.getElem?_toArray]
          exact pkC_13 HQV.out.ok _
        have HB4 := Lib.hid (HB3.out.trans (HBR.out.mono HB3.out.size))
        have hmx : max (1 : Int) (((o : Int) + 175) / 176) = (k : Int) := by
          have hNv := HNN.out
          unfold piecesN at hNv
          split at hNv <;> omega
        have hmx2 : (1 ≤ ((o : Int) + 175) / 176 ∧ ((o : Int) + 175) / 176 = (k : Int)) ∨ (((o : Int) + 175) / 176 < 1 ∧ k = 1) := by omega
        have HKK := Lib.hid hmx2
        clear hmx
        rcases hmx2 with ⟨m1, m2⟩ | ⟨m1, m2⟩
        all_goals
          go_wp2
          all_goals
            go_ret
            refine ⟨?_, HB4.out⟩
            first
            | rfl
            | (have hk1 : (k : Int) = 1 := by omega
               have hk2 : ((k : Int) == 1) = true := beqT hk1
               show Ending.returned (.bool ((k : Int) == 1)) = _
               rw [hk2])
end Go.Proofs.Ytkgfphkhnhdemaa
