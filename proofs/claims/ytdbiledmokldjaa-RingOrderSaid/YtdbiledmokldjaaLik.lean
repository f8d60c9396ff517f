/-
  The document's Like, of a ring and the document's own that tell the same: true. Every right ring. No condition beyond that.
-/
import Derived.Test.YtdbiledmokldjaaRff
namespace Go.Proofs.Ytdbiledmokldjaa
open Go.RowKit

set_option maxRecDepth 100000 in
set_option maxHeartbeats 8000000 in
theorem like_any {x : Rn} {lo hi : Nat} {v u : Value} (w : World) (hf : Rf x w u) (hg : Rg lo hi x w v) (hx : x.Ok) (hhi : hi ≤ w.heap.size) :
    Calls Try.prog 10 #[u, v] w fun e w' => e = .returned (.bool true) ∧ Below w.heap.size w w' := by
  obtain ⟨A1, A2, A3, c1, c2, c3, rfl, s1, s2, s3⟩ := hf
  obtain ⟨S, A, c, vs, m, hl, rfl, hs, hlm⟩ := hg
  have hp1 := x.p_lt
  have ht1 := x.t_lt
  have hd1 := x.d_lt
  have hr1 := hx.lt
  have hle := hx.le
  have hmy := hx.may
  have hpos := hx.may.pos
  obtain ⟨hpos1, hpos2⟩ := hpos
  obtain ⟨g, c', cur', e1, -⟩ := ownk_some hs.own (by omega)
  injection e1 with e1 _ e3
  subst e1 e3
  clear cur'
  have hep : x.p = (x.r + (x.D.length + x.T.length + x.P.length)) % 65536 := rfl
  have het : x.t = (x.r + (x.D.length + x.T.length)) % 65536 := rfl
  have hed : x.d = (x.r + x.D.length) % 65536 := rfl
  have hlen : x.len = x.D.length + x.T.length + x.P.length := rfl
  have hall : x.all = x.D ++ x.T ++ x.P := rfl
  have hall2 : strs x.all = strs x.D ++ strs x.T ++ strs x.P := by rw [hall, strs_append, strs_append]
  have hallL : x.all.length = x.D.length + x.T.length + x.P.length := x.all_length
  obtain ⟨l1, hl1⟩ : ∃ l, x.P.length = l := ⟨_, rfl⟩
  obtain ⟨l2, hl2⟩ : ∃ l, x.T.length = l := ⟨_, rfl⟩
  obtain ⟨l3, hl3⟩ : ∃ l, x.D.length = l := ⟨_, rfl⟩
  rw [hlen] at hle
  rw [hl1, hl2, hl3] at hep hallL hle
  rw [hl2, hl3] at het
  rw [hl3] at hed
  obtain ⟨L, hL⟩ : ∃ L, l3 + l2 + l1 = L := ⟨_, rfl⟩
  rw [hL] at hallL hle hep
  obtain ⟨p, hp⟩ : ∃ k, x.p = k := ⟨_, rfl⟩
  obtain ⟨t, ht⟩ : ∃ k, x.t = k := ⟨_, rfl⟩
  obtain ⟨d, hd⟩ : ∃ k, x.d = k := ⟨_, rfl⟩
  obtain ⟨r, hr⟩ : ∃ k, x.r = k := ⟨_, rfl⟩
  obtain ⟨n, hn⟩ : ∃ k, x.n = k := ⟨_, rfl⟩
  unfold rfC rgC
  rw [hl1, hl2, hl3, hp, ht, hd, hr, hn]
  rw [hp] at hep hp1
  rw [ht] at het ht1
  rw [hd] at hed hd1
  rw [hr] at hep het hed hr1
  rw [hn] at hle hmy hpos1 hpos2 hs
  rw [hn, hr] at hl
  clear hp ht hd hr hn hlen hall
  obtain ⟨N, hN⟩ : ∃ N, w.heap.size = N := ⟨_, rfl⟩
  obtain ⟨w1, hw1⟩ : ∃ w1, (w.alloc (.cells #[.int .i64 (n : Int), .slice A1 l1 c1, .slice A2 l2 c2, .slice A3 l3 c3, .int .i64 (p : Int)] 32)).alloc (.cells #[.slice (some ⟨g, 0, none⟩) n c, .int .u16 (p : Int), .int .u16 (t : Int), .int .u16 (d : Int), .int .u16 (r : Int)] 29) = w1 := ⟨_, rfl⟩
  have HB0 : Hid (Below N w w1) := by rw [← hw1]; exact ((Below.refl _ _).alloc (by omega) _).alloc (by simp; omega) _
  have RF0 : Hid (w1.heap[N]? = some (.cells #[.int .i64 (n : Int), .slice A1 l1 c1, .slice A2 l2 c2, .slice A3 l3 c3, .int .i64 (p : Int)] 32 (0, 0))) := by rw [← hw1, ← hN]; exact old_alloc (heap_alloc_new w _) _
  have RG0 : Hid (w1.heap[N + 1]? = some (.cells #[.slice (some ⟨g, 0, none⟩) n c, .int .u16 (p : Int), .int .u16 (t : Int), .int .u16 (d : Int), .int .u16 (r : Int)] 29 (0, 0))) := by rw [← hw1, ← hN]; exact new_at1 w _ _
  have S1 := Lib.hid (s1.below HB0.out (by omega))
  have S2 := Lib.hid (s2.below HB0.out (by omega))
  have S3 := Lib.hid (s3.below HB0.out (by omega))
  have HFR := Lib.hid (hs.fr.stay (Stay.of HB0.out (by omega)))
  have HRO := Lib.hid (ownk_below hs.own HB0.out (by omega))
  have HMH : Hid (hi ≤ w1.heap.size) := by have := HB0.out.size; show _ ≤ _; omega
  have HLI := Lib.hid hl
  have HMY := Lib.hid hmy
  have HEP := Lib.hid hep
  have HET := Lib.hid het
  have HED := Lib.hid hed
  have HAL := Lib.hid hall2
  have HLL := Lib.hid hallL
  have HL1 := Lib.hid hl1
  have HL2 := Lib.hid hl2
  have HL3 := Lib.hid hl3
  have HL := Lib.hid hL
  obtain ⟨i0, hi0, hz0, hz1, hz2⟩ := info_parts info_st
  have hz3 : (Value.string ⟨#[]⟩).cells.size = 1 := rfl
  have hlL : L ≤ n := hle
  have k3 : l3 ≤ 16 := by omega
  have k2 : l2 ≤ 16 := by omega
  have k1 : l1 ≤ 16 := by omega
  have hfirst : ((p : Int) - (L : Int) + 65536) % 65536 = (r : Int) := by omega
  have hdone : ((r : Int) + (l3 : Int)) % 65536 = (d : Int) := by omega
  have htaken : ((r : Int) + (l3 : Int) + (l2 : Int)) % 65536 = (t : Int) := by omega
  rw [hN]
  have HSZ : Hid (N + 2 ≤ w1.heap.size) := row_lt RG0.out
  clear s1 s2 s3 hs hl hmy hep het hed hall2 hallL hl1 hl2 hl3 hx hhi hlm hL
  obtain ⟨a0, a1, a2, a3, a4⟩ := five_cells RF0.out
  obtain ⟨b0, b1, b2, b3, b4⟩ := five_cells RG0.out
  go_enter Try.func10, Try.ntmps10
  go_upto_region 4 with (fail)
  clear hw1 a0 a1 a2 a3 a4 b0 b1 b2 b3 b4
  obtain ⟨a0, a1, a2, a3, a4⟩ := five_cells (old_alloc RF0.out (.cells #[] 9))
  have HOW : Hid ((w1.alloc (.cells #[] 9)).ownsRow w1.heap.size 9 1 (.slice (some ⟨w1.heap.size, 0, none⟩) 0 0) 0 []) := own_empty w1 9 1
  have R3 := Lib.hid ((S3.out.rd.alloc (.cells #[] 9)).rd)
  go_upto_region 5 with (at_builtin; refine wpList_append_rdk (P := Try.prog) rfl _ _ 30 rfl w1.heap.size 9 i0 _ 1 16 Try.underlying30 hi0 hz0 hz1 hz2 hz3 (by omega) _ 0 ([]) rfl HOW.out A3 l3 c3 (strs x.D) rfl S3.out.nil (by rw [strs_length, HL3.out, Nat.mul_one]) R3.out (strs_one x.D) (by unfold maxLen; omega) (by omega) (by simp) ?_; intro v2 w2 hown2 hgrow2 _)
  have hb2 : Below w1.heap.size w1 w2 := ((Below.refl w1.heap.size w1).alloc (Nat.le_refl _) _).grown hgrow2 (by simp) fun g hg => (HOW.out.lt g hg).1
  have HB2 := Lib.hid hb2
  have HO2 : Hid (w2.ownsRow w1.heap.size 9 1 v2 l3 (strs x.D)) := by show World.ownsRow _ _ _ _ _ _ _; simpa using hown2
  clear hown2 hgrow2 a0 a1 a2 a3 a4 HOW R3
  obtain ⟨a0, a1, a2, a3, a4⟩ := five_cells (old_below RF0.out hb2 (row_lt RF0.out))
  have R2 := Lib.hid ((S2.out.below hb2 (Nat.le_refl _)).rd.rd)
  have hy2 : w1.heap.size ≤ w2.heap.size := hb2.size
  clear hb2
  go_upto_region 6 with (at_builtin; refine wpList_append_rdk (P := Try.prog) rfl _ _ 30 rfl w1.heap.size 9 i0 _ 1 16 Try.underlying30 hi0 hz0 hz1 hz2 hz3 (by omega) v2 l3 (strs x.D) rfl HO2.out A2 l2 c2 (strs x.T) rfl S2.out.nil (by rw [strs_length, HL2.out, Nat.mul_one]) R2.out (strs_one x.T) (by unfold maxLen; omega) (by omega) hy2 ?_; intro v3 w3 hown3 hgrow3 _)
  have hb3 : Below w1.heap.size w1 w3 := HB2.out.grown hgrow3 hy2 fun g hg => (HO2.out.lt g hg).1
  have HB3 := Lib.hid hb3
  have HO3 := Lib.hid hown3
  clear hown3 hgrow3 a0 a1 a2 a3 a4 HO2 R2 HB2 hy2
  obtain ⟨a0, a1, a2, a3, a4⟩ := five_cells (old_below RF0.out hb3 (row_lt RF0.out))
  have R1 := Lib.hid ((S1.out.below hb3 (Nat.le_refl _)).rd.rd)
  have hy3 : w1.heap.size ≤ w3.heap.size := hb3.size
  clear hb3
  go_upto_region 7 with (at_builtin; refine wpList_append_rdk (P := Try.prog) rfl _ _ 30 rfl w1.heap.size 9 i0 _ 1 16 Try.underlying30 hi0 hz0 hz1 hz2 hz3 (by omega) v3 (l3 + l2) (strs x.D ++ strs x.T) rfl HO3.out A1 l1 c1 (strs x.P) rfl S1.out.nil (by rw [strs_length, HL1.out, Nat.mul_one]) R1.out (strs_one x.P) (by unfold maxLen; omega) (by omega) hy3 ?_; intro v4 w4 hown4 hgrow4 _)
  have hbb : Below w1.heap.size w1 w4 := HB3.out.grown hgrow4 hy3 fun g hg => (HO3.out.lt g hg).1
  clear hgrow4 a0 a1 a2 a3 a4 HO3 R1 HB3 hy3
  rw [← HAL.out, HL.out] at hown4
  obtain ⟨A6, c6, rfl, -⟩ := ownk_form hown4
  have HO := Lib.hid hown4
  clear hown4
  have HBB := Lib.hid hbb
  have HB0 := Lib.hid (HB0.out.trans (hbb.mono (by have := HB0.out.size; omega)))
  have RF0 := Lib.hid (old_below RF0.out hbb (row_lt RF0.out))
  have RG0 := Lib.hid (old_below RG0.out hbb (row_lt RG0.out))
  have S1 := Lib.hid (S1.out.below hbb (Nat.le_refl _))
  have S2 := Lib.hid (S2.out.below hbb (Nat.le_refl _))
  have S3 := Lib.hid (S3.out.below hbb (Nat.le_refl _))
  have HFR := Lib.hid (HFR.out.stay (Stay.of hbb HMH.out))
  have HRO := Lib.hid (ownk_below HRO.out hbb (Nat.le_refl _))
  have HMH := Lib.hid (Nat.le_trans HMH.out hbb.size)
  clear hbb
  clear HBB hi0 hz0 hz1 hz2 hz3 i0
  obtain ⟨a0, a1, a2, a3, a4⟩ := five_cells RF0.out
  obtain ⟨b0, b1, b2, b3, b4⟩ := five_cells RG0.out
  go_wp2
  clear a0 a1 a2 a3 a4 b0 b1 b2 b3 b4
  go_loopw [8, 9] (fun t8 t9 wr => ∃ i : Nat, i ≤ L ∧ t8 = .int .i64 (i : Int) ∧ t9 = .int .i64 (i : Int) ∧ Hid (Below w4.heap.size w4 wr)) (fun _ t9 _ => L - (intOf t9).toNat)
  case atStart => exact ⟨0, Nat.zero_le _, rfl, rfl, Below.refl _ _⟩
  case round =>
    obtain ⟨i, hi1, rfl, rfl, HBK⟩ := hrel
    by_cases hlt : i < L
    · obtain ⟨f, hf⟩ : ∃ f, x.all[i]? = some f := ⟨_, List.getElem?_eq_getElem (by rw [HLL.out]; exact hlt)⟩
      obtain ⟨q, hq⟩ : ∃ q, (r + i) % 65536 = q := ⟨_, rfl⟩
      obtain ⟨j, hj⟩ : ∃ j, q % n = j := ⟨_, rfl⟩
      have hSj : S[j]? = some f := by rw [← hj, ← hq, mod_big0 HMY.out]; exact HLI.out.full i f hf
      have hjn : j < n := by rw [← hj]; exact mod_lt HMY.out _
      obtain ⟨v, hv1, A7, c7, rfl, hrd, -⟩ := HFR.out.2 j f hSj
      have hcr := cell_regrown (own_cell (ownk_below HRO.out HBK.out (Nat.le_refl _)) hv1)
      obtain ⟨g6, c6', cur6, e6, -⟩ := ownk_some HO.out (by omega)
      injection e6 with e6 _ e7
      subst e6 e7
      have hcl := cell_regrown (own_cell (ownk_below HO.out HBK.out (Nat.le_refl _)) (j := i) (u := txt f) (by simp [strs, hf]))
      have hcv : ∀ dd os, (convert 35 9 (.slice A7 f.length c7)).run Try.prog («Sort».grow (redrawn wr dd) os) = .ok (txt f) («Sort».grow (redrawn wr dd) os) := fun dd os => run_text (P := Try.prog) _ 35 9 5 (l := f) c7 Try.underlying35 Try.underlying5 Try.underlying9 ((hrd.stay (Stay.of HBK.out HMH.out)).below (below_regrown wr dd os) (by have := HMH.out; have := HBK.out.size; omega))
      have RF1 := Lib.hid (old_below RF0.out HBK.out (row_lt RF0.out))
      have RG1 := Lib.hid (old_below RG0.out HBK.out (row_lt RG0.out))
      obtain ⟨a0, a1, a2, a3, a4⟩ := five_cells RF1.out
      obtain ⟨b0, b1, b2, b3, b4⟩ := five_cells RG1.out
      have a0k := cell_regrown a0
      have a1k := cell_regrown a1
      have a2k := cell_regrown a2
      have a3k := cell_regrown a3
      have a4k := cell_regrown a4
      have b0k := cell_regrown b0
      have b1k := cell_regrown b1
      have b2k := cell_regrown b2
      have b3k := cell_regrown b3
      have b4k := cell_regrown b4
      clear a0 a1 a2 a3 a4 b0 b1 b2 b3 b4
      have w1' : IntKind.i64.wrap ((r : Int) + (i : Int)) = (r : Int) + (i : Int) := IntWalk.i64_in _ ⟨by omega, by omega⟩
      have w2' : ((r : Int) + (i : Int)).tmod 65536 = (q : Int) := by rw [Int.tmod_eq_emod_of_nonneg (by omega)]; omega
      have w3' : ((r : Int) + (i : Int)) % 65536 = (q : Int) := by omega
      have w4' : (q : Int).tmod (n : Int) = (j : Int) := by rw [Int.tmod_eq_emod_of_nonneg (by omega), ← hj]; rfl
      have w5' : (q : Int) % (n : Int) = (j : Int) := by rw [← hj]; rfl
      have hj0 : (0 : Int) ≤ (j : Int) := by omega
      have hj1 : (j : Int) < (n : Int) := by omega
      have hi0' : (0 : Int) ≤ (i : Int) := by omega
      have hi1' : (i : Int) < (L : Int) := by omega
      have hn0 : ¬ (n : Int) = 0 := by omega
      have hn1 : ¬ n = 0 := by omega
      clear hf hq hj hSj hv1 hrd cur6
      go_upto_region 14 with (fail)
      refine wp_region_quiet_below (by kernel_rfl) (by kernel_rfl) ?_
      repeat (quiet_step (fail))
      refine wpQuiet_nil ?_
      intro w5 hw'
      obtain ⟨⟨dq, osq⟩, rfl⟩ := hw'
      have hb5 := below_regrown wr dq osq
      clear a0k a1k a2k a3k a4k b0k b1k b2k b3k b4k
      clear hcr hcl hcv
      generalize «Sort».grow (redrawn wr dq) osq = w5 at hb5 ⊢
      have HB5 := Lib.hid (HBK.out.trans (hb5.mono HBK.out.size))
      clear hb5
      go_wp2
      go_roundw
      case rel => exact ⟨i + 1, by omega, by go_num, by go_num, HB5⟩
      case measure => simp [intOf]; omega
    · obtain rfl : L = i := by omega
      have RF1 := Lib.hid (old_below RF0.out HBK.out (row_lt RF0.out))
      have RG1 := Lib.hid (old_below RG0.out HBK.out (row_lt RG0.out))
      have HR1 := Lib.hid (ownk_below HRO.out HBK.out (Nat.le_refl _))
      have HBE := Lib.hid (HB0.out.trans (HBK.out.mono (by have := HB0.out.size; omega)))
      generalize wr = w6 at RF1 RG1 HR1 HBE ⊢
      obtain ⟨a0, a1, a2, a3, a4⟩ := five_cells RF1.out
      go_wp2
      clear a0 a1 a2 a3 a4
      go_loopw [10] (fun t10 wr => ∃ i : Nat, i ≤ n - L ∧ t10 = .int .i64 (i : Int) ∧ Hid (Below w6.heap.size w6 wr)) (fun t10 _ => (n - L) - (intOf t10).toNat)
      case atStart => exact ⟨0, Nat.zero_le _, rfl, Below.refl _ _⟩
      case round =>
        obtain ⟨i, hi1, rfl, HBQ⟩ := hrel
        have RF2 := Lib.hid (old_below RF1.out HBQ.out (row_lt RF1.out))
        have RG2 := Lib.hid (old_below RG1.out HBQ.out (row_lt RG1.out))
        obtain ⟨a0, a1, a2, a3, a4⟩ := five_cells RF2.out
        obtain ⟨b0, b1, b2, b3, b4⟩ := five_cells RG2.out
        by_cases hlt2 : i < n - L
        · obtain ⟨q, hq⟩ : ∃ q, (p + i) % 65536 = q := ⟨_, rfl⟩
          obtain ⟨j, hj⟩ : ∃ j, q % n = j := ⟨_, rfl⟩
          have hSj : S[j]? = some [] := by
            have h1 := HLI.out.free (L + i) (by rw [HLL.out]; omega) (by omega)
            rw [← hj, ← hq, mod_big0 HMY.out, HEP.out, mod_big HMY.out, Nat.add_assoc]
            exact h1
          have hjn : j < n := by rw [← hj]; exact mod_lt HMY.out _
          obtain ⟨v, hv1, A7, c7, rfl, -, -⟩ := HFR.out.2 j [] hSj
          have hcr := cell_regrown (own_cell (ownk_below HR1.out HBQ.out (Nat.le_refl _)) hv1)
          change ∀ d os, _ = some (Value.slice A7 0 c7) at hcr
          have a0k := cell_regrown a0
          have a1k := cell_regrown a1
          have a2k := cell_regrown a2
          have a3k := cell_regrown a3
          have a4k := cell_regrown a4
          have b0k := cell_regrown b0
          have b1k := cell_regrown b1
          have b2k := cell_regrown b2
          have b3k := cell_regrown b3
          have b4k := cell_regrown b4
          have w1' : IntKind.i64.wrap ((p : Int) + (i : Int)) = (p : Int) + (i : Int) := IntWalk.i64_in _ ⟨by omega, by omega⟩
          have w2' : ((p : Int) + (i : Int)).tmod 65536 = (q : Int) := by rw [Int.tmod_eq_emod_of_nonneg (by omega)]; omega
          have w3' : ((p : Int) + (i : Int)) % 65536 = (q : Int) := by omega
          have w4' : (q : Int).tmod (n : Int) = (j : Int) := by rw [Int.tmod_eq_emod_of_nonneg (by omega), ← hj]; rfl
          have w5' : (q : Int) % (n : Int) = (j : Int) := by rw [← hj]; rfl
          have hj0 : (0 : Int) ≤ (j : Int) := by omega
          have hj1 : (j : Int) < (n : Int) := by omega
          have hn0 : ¬ (n : Int) = 0 := by omega
          have hn1 : ¬ n = 0 := by omega
          clear hq hj hSj hv1
          have hlt3 : (i : Int) < (n : Int) - (L : Int) := by omega
          go_upto_region 20 with (fail)
          clear a0 a1 a2 a3 a4 b0 b1 b2 b3 b4
          refine wp_region_quiet_below (by kernel_rfl) (by kernel_rfl) ?_
          repeat (quiet_step (fail))
          refine wpQuiet_nil ?_
          intro w7 hw'
          obtain ⟨⟨dq, osq⟩, rfl⟩ := hw'
          have hb7 := below_regrown wr dq osq
          clear a0k a1k a2k a3k a4k b0k b1k b2k b3k b4k
          clear hcr
          generalize «Sort».grow (redrawn wr dq) osq = w7 at hb7 ⊢
          have HB7 := Lib.hid (HBQ.out.trans (hb7.mono HBQ.out.size))
          clear hb7
          go_wp2
          go_roundw
          case rel => exact ⟨i + 1, by omega, by go_num, HB7⟩
          case measure => simp [intOf]; omega
        · have hlt3 : ¬ (i : Int) < (n : Int) - (L : Int) := by omega
          have HBZ := Lib.hid (HBE.out.trans (HBQ.out.mono (by have := HBE.out.size; omega)))
          go_wp2
          go_ret
          exact ⟨rfl, HBZ.out⟩
end Go.Proofs.Ytdbiledmokldjaa
