/-
  The law RingFull: every three numbers. No condition.
-/
import Derived.Test.YtdbiledmokldjaaOpR
namespace Go.Proofs.Ytdbiledmokldjaa
open Go.RowKit

/-- the variable block N holds the document's ring -/
def VarF (N : Nat) (x : Rn) (w : World) : Prop := ∃ cs, w.heap[N]? = some (.cells cs 32 (0, 0)) ∧ Rf x w (.agg cs)
theorem shl_may (q : Nat) (h : q < 5) : ∃ n : Nat, MayN n ∧ wrap64 ((2 : Int) ^ q) = (n : Int) := by
  have h2 : q = 0 ∨ q = 1 ∨ q = 2 ∨ q = 3 ∨ q = 4 := by omega
  rcases h2 with rfl | rfl | rfl | rfl | rfl
  · exact ⟨1, .inl rfl, by kernel_rfl⟩
  · exact ⟨2, .inr (.inl rfl), by kernel_rfl⟩
  · exact ⟨4, .inr (.inr (.inl rfl)), by kernel_rfl⟩
  · exact ⟨8, .inr (.inr (.inr (.inl rfl))), by kernel_rfl⟩
  · exact ⟨16, .inr (.inr (.inr (.inr rfl))), by kernel_rfl⟩
def frN (i : Nat) : Fr := [UInt8.ofNat i]
def Fs (a b : Nat) : List Fr := (List.range' a (b - a)).map frN
theorem Fs_len (a b : Nat) : (Fs a b).length = b - a := by simp [Fs]
theorem Fs_nil (a : Nat) : Fs a a = [] := by simp [Fs]
theorem Fs_snoc {a b : Nat} (h : a ≤ b) : Fs a b ++ [frN b] = Fs a (b + 1) := by
  unfold Fs
  rw [show b + 1 - a = (b - a) + 1 from by omega, List.range'_concat, List.map_append]
  simp only [Nat.one_mul, List.map_cons, List.map_nil]
  rw [show a + (b - a) = b from by omega]
theorem Fs_cons {a b : Nat} (h : a < b) : Fs a b = frN a :: Fs (a + 1) b := by
  unfold Fs
  rw [show b - a = (b - (a + 1)) + 1 from by omega, List.range'_succ]
  rfl
def XF (n r a b c d : Nat) : Rn := { n := n, r := r, D := Fs a b, T := Fs b c, P := Fs c d }
theorem XF_len (n r a b c d : Nat) : (XF n r a b c d).len = (b - a) + (c - b) + (d - c) := by simp [XF, Rn.len, Fs_len]
theorem XF_ok {n r a b c d : Nat} (hn : MayN n) (hr : r < 65536) (h1 : a ≤ b) (h2 : b ≤ c) (h3 : c ≤ d) (h4 : d - a ≤ n) : (XF n r a b c d).Ok := by
  refine ⟨hn, hr, by rw [XF_len]; show _ ≤ n; omega, fun f hf => ?_⟩
  have : ∃ i, f = frN i := by
    simp only [Rn.all, XF, Fs, List.mem_append, List.mem_map] at hf
    rcases hf with (⟨i, -, rfl⟩ | ⟨i, -, rfl⟩) | ⟨i, -, rfl⟩ <;> exact ⟨i, rfl⟩
  obtain ⟨i, rfl⟩ := this
  simp [frN]
theorem post_f {n r i : Nat} (h : i < n) : postX (XF n r 0 0 0 i) (frN i) = (XF n r 0 0 0 (i + 1), 0) := by
  unfold postX
  rw [if_neg (by simp [frN]), if_neg (by rw [XF_len]; show _ ≠ n; omega)]
  simp only [Rn.post, XF]
  rw [Fs_snoc (Nat.zero_le _)]
theorem post_full {n r : Nat} (f : Fr) (hf : f.length ≤ 214) : postX (XF n r 0 0 0 n) f = (XF n r 0 0 0 n, 5) := by
  unfold postX
  rw [if_neg (by omega), if_pos (by rw [XF_len]; show _ = n; omega)]
theorem take_f {n r a b c d : Nat} (h : c < d) (h2 : b ≤ c) : takeX (XF n r a b c d) = (XF n r a b (c + 1) d, frN c, 0) := by
  unfold takeX XF
  rw [Fs_cons h]
  simp only [Fs_snoc h2]
theorem fin_f {n r a b c d : Nat} (h : b < c) (h2 : a ≤ b) : finX (XF n r a b c d) = (XF n r a (b + 1) c d, 0) := by
  unfold finX XF
  rw [Fs_cons h]
  simp only [Fs_snoc h2]
theorem fin_none {n r a b d : Nat} : finX (XF n r a b b d) = (XF n r a b b d, 2) := by
  unfold finX XF
  rw [Fs_nil]
theorem reap_f {n r a b c d : Nat} (h : a < b) : reapX (XF n r a b c d) = (XF n ((r + 1) % 65536) (a + 1) b c d, frN a, 0) := by
  unfold reapX XF
  rw [Fs_cons h]
theorem reap_none {n r a c d : Nat} : reapX (XF n r a a c d) = (XF n r a a c d, [], 2) := by
  unfold reapX XF
  rw [Fs_nil]

set_option maxRecDepth 100000 in
set_option maxHeartbeats 8000000 in
theorem full_any (sz : Int) (k : Nat) (tk : Int) (hk : k < 65536) (w : World) :
    Calls Try.prog 5 #[.int .i64 sz, .int .u16 (k : Int), .int .i64 tk] w fun e w' => e = .returned (.bool true) ∧ Below w.heap.size w w' := by
  obtain ⟨q, hq, hq5⟩ := u64_rem sz 5 (by decide) (by decide)
  change (IntKind.u64.wrap sz).tmod 5 = (q : Int) at hq
  obtain ⟨n, hn, hsh⟩ := shl_may q hq5
  have HMN := Lib.hid hn
  have hpos := hn.pos
  obtain ⟨hn1, hn2⟩ := hpos
  clear hn
  go_enter Try.func5, Try.ntmps5
  go_wp2_with fail
  refine (lives_any _).mono ?_
  rintro e w1 ⟨rfl, hb1⟩
  have HB1 := Lib.hid hb1
  clear hb1
  go_upto_region 4 with (fail)
  go_wp2_with fail
  refine (at_any n k HMN.out hk w1).mono ?_
  rintro e w2 ⟨v, u, H, rfl, hg, hH, hf, hb⟩
  obtain ⟨cs, rfl, h5, h1⟩ := Rg.form hg
  obtain ⟨ds, rfl, h5p, h1p⟩ := Rf.form hf
  have hb0 : Below w2.heap.size w2 ((w2.alloc (.cells #[.slice none 0 0, .int .u16 0, .int .u16 0, .int .u16 0, .int .u16 0] 29)).alloc (.cells #[.int .i64 0, .slice none 0 0, .slice none 0 0, .slice none 0 0, .int .i64 0] 32)) := ((Below.refl _ _).alloc (Nat.le_refl _) _).alloc (by simp) _
  have hz : w2.heap.size + 2 = ((w2.alloc (.cells #[.slice none 0 0, .int .u16 0, .int .u16 0, .int .u16 0, .int .u16 0] 29)).alloc (.cells #[.int .i64 0, .slice none 0 0, .slice none 0 0, .slice none 0 0, .int .i64 0] 32)).heap.size := by simp
  have hx1 : ((w2.alloc (.cells #[.slice none 0 0, .int .u16 0, .int .u16 0, .int .u16 0, .int .u16 0] 29)).alloc (.cells #[.int .i64 0, .slice none 0 0, .slice none 0 0, .slice none 0 0, .int .i64 0] 32)).heap[w2.heap.size]? = some (.cells #[.slice none 0 0, .int .u16 0, .int .u16 0, .int .u16 0, .int .u16 0] 29 (0, 0)) := old_alloc (heap_alloc_new w2 _) _
  have hx2 : (((w2.alloc (.cells #[.slice none 0 0, .int .u16 0, .int .u16 0, .int .u16 0, .int .u16 0] 29)).alloc (.cells #[.int .i64 0, .slice none 0 0, .slice none 0 0, .slice none 0 0, .int .i64 0] 32)).setRow w2.heap.size cs).heap[w2.heap.size + 1]? = some (.cells #[.int .i64 0, .slice none 0 0, .slice none 0 0, .slice none 0 0, .int .i64 0] 32 (0, 0)) := (setRow_other _ _ _ _ (by omega)).trans (new_at1 w2 _ _)
  have hg2 : Rg w1.heap.size H (newX n k) (((w2.alloc (.cells #[.slice none 0 0, .int .u16 0, .int .u16 0, .int .u16 0, .int .u16 0] 29)).alloc (.cells #[.int .i64 0, .slice none 0 0, .slice none 0 0, .slice none 0 0, .int .i64 0] 32)).setRow w2.heap.size cs) (.agg cs) := (hg.below hb0 hH).stay (Stay.row _ (.inr hH) _)
  have HV : Hid (VarG w2.heap.size w1.heap.size H (newX n k) ((((w2.alloc (.cells #[.slice none 0 0, .int .u16 0, .int .u16 0, .int .u16 0, .int .u16 0] 29)).alloc (.cells #[.int .i64 0, .slice none 0 0, .slice none 0 0, .slice none 0 0, .int .i64 0] 32)).setRow w2.heap.size cs).setRow (w2.heap.size + 1) ds)) := ⟨⟨cs, (setRow_other _ _ _ _ (by omega)).trans (setRow_heap _ _ _ _ _ _ hx1), hg2.stay (Stay.row _ (.inr (by omega)) _)⟩, .inr hH, by simp [World.setRow]; omega⟩
  have HVF : Hid (VarF (w2.heap.size + 1) (newX n k) ((((w2.alloc (.cells #[.slice none 0 0, .int .u16 0, .int .u16 0, .int .u16 0, .int .u16 0] 29)).alloc (.cells #[.int .i64 0, .slice none 0 0, .slice none 0 0, .slice none 0 0, .int .i64 0] 32)).setRow w2.heap.size cs).setRow (w2.heap.size + 1) ds)) := ⟨ds, setRow_heap _ _ _ _ _ _ hx2, ((hf.below hb0).other hx1 (by decide) (setRow_cells _ _ _)).other hx2 (by decide) (setRow_cells _ _ _)⟩
  have HBL : Hid (Below w.heap.size w ((((w2.alloc (.cells #[.slice none 0 0, .int .u16 0, .int .u16 0, .int .u16 0, .int .u16 0] 29)).alloc (.cells #[.int .i64 0, .slice none 0 0, .slice none 0 0, .slice none 0 0, .int .i64 0] 32)).setRow w2.heap.size cs).setRow (w2.heap.size + 1) ds)) := below_setRow (below_setRow ((HB1.out.trans (hb.mono HB1.out.size)).trans (hb0.mono (by have := HB1.out.size; have := hb.size; omega))) (by have := HB1.out.size; have := hb.size; omega) _) (by have := HB1.out.size; have := hb.size; omega) _
  have HNP : Hid (w.heap.size ≤ w2.heap.size) := by have := HB1.out.size; have := hb.size; show _ ≤ _; omega
  have HX1 := Lib.hid hx1
  have HX2 := Lib.hid hx2
  have H5 := Lib.hid h5
  have H1 := Lib.hid h1
  have H5p := Lib.hid h5p
  have H1p := Lib.hid h1p
  clear hg hf hb hb0 hz hx1 hx2 hg2 hH h5 h1 h5p h1p
  go_upto_region 5 with (first | refine wpList_store_row rfl 29 _ _ rfl w2.heap.size cs rfl rfl 29 _ HX1.out (sz_rg H5.out) (H5.out.symm) H1.out ?_ | refine wpList_store_row rfl 32 _ _ rfl (w2.heap.size + 1) ds rfl rfl 32 _ HX2.out (sz_rf H5p.out) (H5p.out.symm) H1p.out ?_)
  generalize (((w2.alloc (.cells #[.slice none 0 0, .int .u16 0, .int .u16 0, .int .u16 0, .int .u16 0] 29)).alloc (.cells #[.int .i64 0, .slice none 0 0, .slice none 0 0, .slice none 0 0, .int .i64 0] 32)).setRow w2.heap.size cs).setRow (w2.heap.size + 1) ds = w3 at HV HVF HBL ⊢
  generalize w2.heap.size = P at HV HVF HNP ⊢
  clear HX1 HX2 H5 H1 H5p H1p
  generalize w1.heap.size = lo at HV
  have hrel := HV
  clear HV
  clear hsh hq hq5 HVF HB1
  have h0 : Hid (VarG P lo H (XF n k 0 0 0 0) w3) := by
    have := hrel.out
    show VarG _ _ _ _ _
    rwa [show XF n k 0 0 0 0 = newX n k from by simp [XF, newX, Fs]]
  clear hrel
  have kbu : ∀ i : Nat, i ≤ 16 → IntKind.u8.wrap (i : Int) = (i : Int) := fun i hi => by rw [IntKind.wrap_u8]; omega
  go_wp2
  go_loopw [37] (fun t37 wr => ∃ (i lo hi : Nat), i ≤ n + 1 ∧ t37 = .int .i64 (i : Int) ∧ Hid (VarG P lo hi (XF n k 0 0 0 (min i n)) wr) ∧ Hid (Below w.heap.size w wr)) (fun t37 _ => n + 1 - (intOf t37).toNat)
  case atStart => exact ⟨0, _, _, Nat.zero_le _, rfl, by rw [Nat.zero_min]; exact h0, HBL⟩
  case round =>
    obtain ⟨i, lo1, hi1, hi, rfl, HV, HBL2⟩ := hrel
    clear HBL h0
    have HBL := HBL2
    clear HBL2
    by_cases hlt : i < n + 1
    · have hwu := kbu i (by omega)
      have hmin : min i n = i := by omega
      rw [hmin] at HV
      obtain ⟨⟨cs, hcs, hg⟩, hout, hle⟩ := HV.out
      obtain ⟨cs', hcv, h5, h1⟩ := Rg.form hg
      injection hcv with hcv
      subst hcv
      have HCS := Lib.hid hcs
      have H5 := Lib.hid h5
      have hba := (Below.refl wr.heap.size wr).alloc (Nat.le_refl _) (.cells #[.int .u8 (i : Int)] 5)
      have hcf : (cells (frN i)).toArray = #[.int .u8 (i : Int)] := by simp [frN, cells]; omega
      have hrd : Rd (wr.alloc (.cells #[.int .u8 (i : Int)] 5)) wr.heap.size (wr.heap.size + 1) (some ⟨wr.heap.size, 0, none⟩) (cells (frN i)) := by
        rw [← hcf]
        exact rd_new wr (cells (frN i)) 5 (0, 0)
      have HPS := Lib.hid (rg_post (hg.below hba hle) (XF_ok HMN.out hk (Nat.le_refl _) (Nat.le_refl _) (Nat.zero_le _) (by omega)) (by simp; omega) (some ⟨wr.heap.size, 0, none⟩) 1 wr.heap.size (wr.heap.size + 1) (frN i) hrd (by simp) (fun h => by cases h) (by simp [frN]))
      have HCR := HCS
      have HCS := Lib.hid (old_below HCS.out hba (row_lt HCS.out))
      have HBL := Lib.hid (HBL.out.trans (hba.mono HBL.out.size))
      clear hcs hg h1 h5 hle hba hrd hcf
      go_wp2_with (refine wpList_load_row rfl 29 _ rfl P rfl 29 cs (0, 0) _ HCR.out Try.underlying29 rfl (sz_rg H5.out) ?_)
      by_cases hin : i < n
      · rw [post_f hin] at HPS
        refine HPS.out.mono ?_
        rintro e wb ⟨v, rfl, hg, hb⟩
        have hH := Nat.le_refl wb.heap.size
        have hlt2 : (i : Int) < (n : Int) := by omega
        clear HPS HCR hwu
        obtain ⟨ds, rfl, h5, h1⟩ := Rg.form hg
        have hx := old_alloc (old_below HCS.out hb (row_lt HCS.out)) (.cells ds 29)
        have hy := heap_alloc_new wb (.cells ds 29)
        have hg2 := hg.below ((Below.refl wb.heap.size wb).alloc (Nat.le_refl _) (.cells ds 29)) hH
        have HV2 := Lib.hid (varg_set hg2 (Nat.le_trans hH (by simp)) hx (.inl (row_lt HCS.out)))
        have HBC : Hid (Below w.heap.size w ((wb.alloc (.cells ds 29)).setRow P ds)) := below_setRow ((HBL.out.trans (hb.mono HBL.out.size)).alloc (by have := HBL.out.size; have := hb.size; omega) _) HNP.out _
        have HX := Lib.hid hx
        have HY := Lib.hid hy
        have HSO := H5
        have H5 := Lib.hid h5
        have H1 := Lib.hid h1
        have hzs : (#[.slice none 0 0, .int .u16 0, .int .u16 0, .int .u16 0, .int .u16 0] : Array Value).size = ds.size := h5.symm
        clear hg hg2 hb hx hy h5 h1 hH
        go_upto_region 9 with (refine wpList_store_new rfl 29 _ _ rfl wb #[.slice none 0 0, .int .u16 0, .int .u16 0, .int .u16 0, .int .u16 0] ds rfl rfl (sz_rg H5.out) (hzs) H1.out ?_)
        go_upto_region 10 with (first | refine wpList_load_row rfl 29 _ rfl wb.heap.size rfl 29 ds (0, 0) _ HY.out Try.underlying29 rfl (sz_rg H5.out) ?_ | refine wpList_store_row rfl 29 _ _ rfl P ds rfl rfl 29 _ HX.out (sz_rg H5.out) (HSO.out.trans H5.out.symm) H1.out ?_)
        generalize ((wb.alloc (.cells ds 29)).setRow P ds) = wz at HV2 HBC ⊢
        clear HX HY H5 H1 HSO HCS hzs hout
        have hm1 : min (i + 1) n = i + 1 := by omega
        go_wp2
        go_roundw
        case rel => exact ⟨i + 1, _, _, by omega, by go_num, by rw [hm1]; exact HV2, HBC⟩
        case measure => simp [intOf]; omega
      · obtain rfl : n = i := by omega
        rw [post_full _ (by simp [frN])] at HPS
        refine HPS.out.mono ?_
        rintro e wb ⟨v, rfl, hg, hb⟩
        have hH := Nat.le_refl wb.heap.size
        clear HPS HCR hwu
        obtain ⟨ds, rfl, h5, h1⟩ := Rg.form hg
        have hx := old_alloc (old_below HCS.out hb (row_lt HCS.out)) (.cells ds 29)
        have hy := heap_alloc_new wb (.cells ds 29)
        have hg2 := hg.below ((Below.refl wb.heap.size wb).alloc (Nat.le_refl _) (.cells ds 29)) hH
        have HV2 := Lib.hid (varg_set hg2 (Nat.le_trans hH (by simp)) hx (.inl (row_lt HCS.out)))
        have HBC : Hid (Below w.heap.size w ((wb.alloc (.cells ds 29)).setRow P ds)) := below_setRow ((HBL.out.trans (hb.mono HBL.out.size)).alloc (by have := HBL.out.size; have := hb.size; omega) _) HNP.out _
        have HX := Lib.hid hx
        have HY := Lib.hid hy
        have HSO := H5
        have H5 := Lib.hid h5
        have H1 := Lib.hid h1
        have hzs : (#[.slice none 0 0, .int .u16 0, .int .u16 0, .int .u16 0, .int .u16 0] : Array Value).size = ds.size := h5.symm
        clear hg hg2 hb hx hy h5 h1 hH
        go_upto_region 9 with (refine wpList_store_new rfl 29 _ _ rfl wb #[.slice none 0 0, .int .u16 0, .int .u16 0, .int .u16 0, .int .u16 0] ds rfl rfl (sz_rg H5.out) (hzs) H1.out ?_)
        go_upto_region 10 with (first | refine wpList_load_row rfl 29 _ rfl wb.heap.size rfl 29 ds (0, 0) _ HY.out Try.underlying29 rfl (sz_rg H5.out) ?_ | refine wpList_store_row rfl 29 _ _ rfl P ds rfl rfl 29 _ HX.out (sz_rg H5.out) (HSO.out.trans H5.out.symm) H1.out ?_)
        generalize ((wb.alloc (.cells ds 29)).setRow P ds) = wz at HV2 HBC ⊢
        clear HX HY H5 H1 HSO HCS hzs hout
        have hm1 : min (n + 1) n = n := by omega
        go_wp2
        go_roundw
        case rel => exact ⟨n + 1, _, _, by omega, by go_num, by rw [hm1]; exact HV2, HBC⟩
        case measure => simp [intOf]
    · have hm1 : min i n = n := by omega
      have hie : ¬ (i : Int) < (n : Int) + 1 := by omega
      rw [hm1] at HV
      clear hm1 kbu hlt hi
      obtain ⟨tq, htq, htq2⟩ : ∃ tq : Nat, (IntKind.u64.wrap tk).tmod (n + 1 : Int) = (tq : Int) ∧ tq < n + 1 := by
        have := u64_rem tk (n + 1) (by omega) (by omega)
        push_cast at this
        exact this
      have hwn : IntKind.u64.wrap ((n : Int) + 1) = (n : Int) + 1 := by rw [IntKind.wrap_u64]; omega
      have hwt : IntKind.i64.wrap (tq : Int) = (tq : Int) := IntWalk.i64_in _ ⟨by omega, by omega⟩
      generalize wr = wx at HV HBL ⊢
      go_wp2
      clear hwn hwt htq
      go_loopw [72] (fun t72 wr => ∃ (i lo hi : Nat), i ≤ tq ∧ t72 = .int .i64 (i : Int) ∧ Hid (VarG P lo hi (XF n k 0 0 i n) wr) ∧ Hid (Below w.heap.size w wr)) (fun t72 _ => tq - (intOf t72).toNat)
      case atStart => exact ⟨0, _, _, Nat.zero_le _, rfl, HV, HBL⟩
      case round =>
        obtain ⟨i, lo1, hi1, hi, rfl, HV2, HBL2⟩ := hrel
        clear HBL HV
        have HBL := HBL2
        have HV := HV2
        clear HBL2 HV2
        by_cases hlt : i < tq
        · have hlt2 : (i : Int) < (tq : Int) := by omega
          obtain ⟨⟨cs, hcs, hg⟩, hout, hle⟩ := HV.out
          obtain ⟨cs', hcv, h5, h1⟩ := Rg.form hg
          injection hcv with hcv
          subst hcv
          have HCS := Lib.hid hcs
          have H5 := Lib.hid h5
          have HPS := Lib.hid (rg_take hg (XF_ok HMN.out hk (Nat.le_refl _) (Nat.zero_le _) (by omega) (by omega)) hle)
          rw [take_f (by omega) (Nat.zero_le _)] at HPS
          clear hcs hg h1 h5 hle
          go_wp2_with (refine wpList_load_row rfl 29 _ rfl P rfl 29 cs (0, 0) _ HCS.out Try.underlying29 rfl (sz_rg H5.out) ?_)
          refine HPS.out.mono ?_
          rintro e wb ⟨v, u, HH, rfl, hg, hH, hu, hb⟩
          clear hu HPS
          obtain ⟨ds, rfl, h5, h1⟩ := Rg.form hg
          have hx := old_below HCS.out hb (row_lt HCS.out)
          have HV2 := Lib.hid (varg_set hg hH hx (.inl (row_lt HCS.out)))
          have HBC : Hid (Below w.heap.size w (wb.setRow P ds)) := below_setRow (HBL.out.trans (hb.mono HBL.out.size)) HNP.out _
          have HX := Lib.hid hx
          have HSO := H5
          have H5 := Lib.hid h5
          have H1 := Lib.hid h1
          clear hg hb hx h5 h1 hH
          go_upto_region 17 with (refine wpList_store_row rfl 29 _ _ rfl P ds rfl rfl 29 _ HX.out (sz_rg H5.out) (HSO.out.trans H5.out.symm) H1.out ?_)
          generalize (wb.setRow P ds) = wz at HV2 HBC ⊢
          clear HX H5 H1 HSO HCS hout
          go_wp2
          go_roundw
          case rel => exact ⟨i + 1, _, _, by omega, by go_num, HV2, HBC⟩
          case measure => simp [intOf]; omega
        · obtain rfl : tq = i := by omega
          have hlt2 : ¬ (tq : Int) < (tq : Int) := by omega
          generalize wr = wx2 at HV HBL ⊢
          go_wp2
          go_loopw [83] (fun t83 wr => ∃ (i lo hi : Nat), i ≤ tq + 1 ∧ t83 = .int .i64 (i : Int) ∧ Hid (VarG P lo hi (XF n k 0 (min i tq) tq n) wr) ∧ Hid (Below w.heap.size w wr)) (fun t83 _ => tq + 1 - (intOf t83).toNat)
          case atStart => exact ⟨0, _, _, Nat.zero_le _, rfl, by rw [Nat.zero_min]; exact HV, HBL⟩
          case round =>
            obtain ⟨i, lo1, hi1, hi, rfl, HV2, HBL2⟩ := hrel
            clear HBL HV
            have HBL := HBL2
            have HV := HV2
            clear HBL2 HV2
            by_cases hlt : i < tq + 1
            · have hmin : min i tq = i := by omega
              rw [hmin] at HV
              have hlt3 : (i : Int) < (tq : Int) + 1 := by omega
              obtain ⟨⟨cs, hcs, hg⟩, hout, hle⟩ := HV.out
              obtain ⟨cs', hcv, h5, h1⟩ := Rg.form hg
              injection hcv with hcv
              subst hcv
              have HCS := Lib.hid hcs
              have H5 := Lib.hid h5
              have HPS := Lib.hid (rg_fin hg (XF_ok HMN.out hk (Nat.zero_le _) (by omega) (by omega) (by omega)) hle)
              clear hcs hg h1 h5 hle
              go_wp2_with (refine wpList_load_row rfl 29 _ rfl P rfl 29 cs (0, 0) _ HCS.out Try.underlying29 rfl (sz_rg H5.out) ?_)
              by_cases hin : i < tq
              · rw [fin_f hin (Nat.zero_le _)] at HPS
                refine HPS.out.mono ?_
                rintro e wb ⟨v, rfl, hg, hb⟩
                have hH := Nat.le_refl wb.heap.size
                have hlt2 : (i : Int) < (tq : Int) := by omega
                clear HPS
                obtain ⟨ds, rfl, h5, h1⟩ := Rg.form hg
                have hx := old_alloc (old_below HCS.out hb (row_lt HCS.out)) (.cells ds 29)
                have hy := heap_alloc_new wb (.cells ds 29)
                have hg2 := hg.below ((Below.refl wb.heap.size wb).alloc (Nat.le_refl _) (.cells ds 29)) hH
                have HV2 := Lib.hid (varg_set hg2 (Nat.le_trans hH (by simp)) hx (.inl (row_lt HCS.out)))
                have HBC : Hid (Below w.heap.size w ((wb.alloc (.cells ds 29)).setRow P ds)) := below_setRow ((HBL.out.trans (hb.mono HBL.out.size)).alloc (by have := HBL.out.size; have := hb.size; omega) _) HNP.out _
                have HX := Lib.hid hx
                have HY := Lib.hid hy
                have HSO := H5
                have H5 := Lib.hid h5
                have H1 := Lib.hid h1
                have hzs : (#[.slice none 0 0, .int .u16 0, .int .u16 0, .int .u16 0, .int .u16 0] : Array Value).size = ds.size := h5.symm
                clear hg hg2 hb hx hy h5 h1 hH
                go_upto_region 22 with (refine wpList_store_new rfl 29 _ _ rfl wb #[.slice none 0 0, .int .u16 0, .int .u16 0, .int .u16 0, .int .u16 0] ds rfl rfl (sz_rg H5.out) (hzs) H1.out ?_)
                go_upto_region 23 with (first | refine wpList_load_row rfl 29 _ rfl wb.heap.size rfl 29 ds (0, 0) _ HY.out Try.underlying29 rfl (sz_rg H5.out) ?_ | refine wpList_store_row rfl 29 _ _ rfl P ds rfl rfl 29 _ HX.out (sz_rg H5.out) (HSO.out.trans H5.out.symm) H1.out ?_)
                generalize ((wb.alloc (.cells ds 29)).setRow P ds) = wz at HV2 HBC ⊢
                clear HX HY H5 H1 HSO HCS hzs hout
                have hm1 : min (i + 1) tq = i + 1 := by omega
                go_wp2
                go_roundw
                case rel => exact ⟨i + 1, _, _, by omega, by go_num, by rw [hm1]; exact HV2, HBC⟩
                case measure => simp [intOf]; omega
              · obtain rfl : tq = i := by omega
                rw [fin_none] at HPS
                refine HPS.out.mono ?_
                rintro e wb ⟨v, rfl, hg, hb⟩
                have hH := Nat.le_refl wb.heap.size
                clear HPS
                obtain ⟨ds, rfl, h5, h1⟩ := Rg.form hg
                have hx := old_alloc (old_below HCS.out hb (row_lt HCS.out)) (.cells ds 29)
                have hy := heap_alloc_new wb (.cells ds 29)
                have hg2 := hg.below ((Below.refl wb.heap.size wb).alloc (Nat.le_refl _) (.cells ds 29)) hH
                have HV2 := Lib.hid (varg_set hg2 (Nat.le_trans hH (by simp)) hx (.inl (row_lt HCS.out)))
                have HBC : Hid (Below w.heap.size w ((wb.alloc (.cells ds 29)).setRow P ds)) := below_setRow ((HBL.out.trans (hb.mono HBL.out.size)).alloc (by have := HBL.out.size; have := hb.size; omega) _) HNP.out _
                have HX := Lib.hid hx
                have HY := Lib.hid hy
                have HSO := H5
                have H5 := Lib.hid h5
                have H1 := Lib.hid h1
                have hzs : (#[.slice none 0 0, .int .u16 0, .int .u16 0, .int .u16 0, .int .u16 0] : Array Value).size = ds.size := h5.symm
                clear hg hg2 hb hx hy h5 h1 hH
                go_upto_region 22 with (refine wpList_store_new rfl 29 _ _ rfl wb #[.slice none 0 0, .int .u16 0, .int .u16 0, .int .u16 0, .int .u16 0] ds rfl rfl (sz_rg H5.out) (hzs) H1.out ?_)
                go_upto_region 23 with (first | refine wpList_load_row rfl 29 _ rfl wb.heap.size rfl 29 ds (0, 0) _ HY.out Try.underlying29 rfl (sz_rg H5.out) ?_ | refine wpList_store_row rfl 29 _ _ rfl P ds rfl rfl 29 _ HX.out (sz_rg H5.out) (HSO.out.trans H5.out.symm) H1.out ?_)
                generalize ((wb.alloc (.cells ds 29)).setRow P ds) = wz at HV2 HBC ⊢
                clear HX HY H5 H1 HSO HCS hzs hout
                have hm1 : min (tq + 1) tq = tq := by omega
                go_wp2
                go_roundw
                case rel => exact ⟨tq + 1, _, _, by omega, by go_num, by rw [hm1]; exact HV2, HBC⟩
                case measure => simp [intOf]
            · have hm1 : min i tq = tq := by omega
              have hie2 : ¬ (i : Int) < (tq : Int) + 1 := by omega
              rw [hm1] at HV
              clear hm1 hlt hi
              generalize wr = wx3 at HV HBL ⊢
              go_wp2
              go_loopw [101] (fun t101 wr => ∃ (i lo hi : Nat), i ≤ tq + 1 ∧ t101 = .int .i64 (i : Int) ∧ Hid (VarG P lo hi (XF n ((k + min i tq) % 65536) (min i tq) tq tq n) wr) ∧ Hid (Below w.heap.size w wr)) (fun t101 _ => tq + 1 - (intOf t101).toNat)
              case atStart => exact ⟨0, _, _, Nat.zero_le _, rfl, by rw [Nat.zero_min, Nat.add_zero, Nat.mod_eq_of_lt hk]; exact HV, HBL⟩
              case round =>
                obtain ⟨i, lo1, hi1, hi, rfl, HV2, HBL2⟩ := hrel
                clear HBL HV hie hie2
                have HBL := HBL2
                have HV := HV2
                clear HBL2 HV2
                have kbu : ∀ i : Nat, i ≤ 16 → IntKind.u8.wrap (i : Int) = (i : Int) := fun i hi => by rw [IntKind.wrap_u8]; omega
                by_cases hlt : i < tq + 1
                · have hmin : min i tq = i := by omega
                  rw [hmin] at HV
                  have hlt3 : (i : Int) < (tq : Int) + 1 := by omega
                  have hwu := kbu i (by omega)
                  clear kbu
                  obtain ⟨⟨cs, hcs, hg⟩, hout, hle⟩ := HV.out
                  obtain ⟨cs', hcv, h5, h1⟩ := Rg.form hg
                  injection hcv with hcv
                  subst hcv
                  have HCS := Lib.hid hcs
                  have H5 := Lib.hid h5
                  have HPS := Lib.hid (rg_reap hg (XF_ok HMN.out (Nat.mod_lt _ (by omega)) (by omega) (Nat.le_refl _) (by omega) (by omega)) hle)
                  clear hcs hg h1 h5 hle
                  go_wp2_with (refine wpList_load_row rfl 29 _ rfl P rfl 29 cs (0, 0) _ HCS.out Try.underlying29 rfl (sz_rg H5.out) ?_)
                  by_cases hin : i < tq
                  · rw [reap_f hin] at HPS
                    refine HPS.out.mono ?_
                    rintro e wb ⟨v, u, rfl, hg, ⟨Au, cu, rfl, hru, -⟩, hb⟩
                    have hH := Nat.le_refl wb.heap.size
                    have hlt2 : (i : Int) < (tq : Int) := by omega
                    have HPW : Hid (P < wr.heap.size) := row_lt HCS.out
                    have HRU := Lib.hid hru
                    clear HPS hru
                    obtain ⟨ds, rfl, h5, h1⟩ := Rg.form hg
                    have hx := old_alloc (old_below HCS.out hb (row_lt HCS.out)) (.cells ds 29)
                    have hy := heap_alloc_new wb (.cells ds 29)
                    have hg2 := hg.below ((Below.refl wb.heap.size wb).alloc (Nat.le_refl _) (.cells ds 29)) hH
                    have HV2 := Lib.hid (varg_set hg2 (Nat.le_trans hH (by simp)) hx (.inl (row_lt HCS.out)))
                    have HBC : Hid (Below w.heap.size w ((wb.alloc (.cells ds 29)).setRow P ds)) := below_setRow ((HBL.out.trans (hb.mono HBL.out.size)).alloc (by have := HBL.out.size; have := hb.size; omega) _) HNP.out _
                    have HX := Lib.hid hx
                    have HY := Lib.hid hy
                    have HSO := H5
                    have H5 := Lib.hid h5
                    have H1 := Lib.hid h1
                    have hzs : (#[.slice none 0 0, .int .u16 0, .int .u16 0, .int .u16 0, .int .u16 0] : Array Value).size = ds.size := h5.symm
                    clear hg hg2 hb hx hy h5 h1 hH
                    go_upto_region 30 with (refine wpList_store_new rfl 29 _ _ rfl wb #[.slice none 0 0, .int .u16 0, .int .u16 0, .int .u16 0, .int .u16 0] ds rfl rfl (sz_rg H5.out) (hzs) H1.out ?_)
                    go_upto_region 31 with (first | refine wpList_load_row rfl 29 _ rfl wb.heap.size rfl 29 ds (0, 0) _ HY.out Try.underlying29 rfl (sz_rg H5.out) ?_ | refine wpList_store_row rfl 29 _ _ rfl P ds rfl rfl 29 _ HX.out (sz_rg H5.out) (HSO.out.trans H5.out.symm) H1.out ?_)
                    have HRZ := Lib.hid ((HRU.out.below ((Below.refl wb.heap.size wb).alloc (Nat.le_refl _) (.cells ds 29)) (Nat.le_refl _)).setRow (.inl HPW.out : P < wr.heap.size ∨ wb.heap.size ≤ P) ds)
                    generalize ((wb.alloc (.cells ds 29)).setRow P ds) = wz at HV2 HBC HRZ ⊢
                    clear HX HY H5 H1 HSO HCS hzs hout
                    have hm1 : min (i + 1) tq = i + 1 := by omega
                    have hrr : ((k + i) % 65536 + 1) % 65536 = (k + (i + 1)) % 65536 := by omega
                    rw [hrr] at HV2
                    obtain ⟨ad, rfl, -, -, hcl⟩ := HRZ.out 0 (.int .u8 (i : Int)) (by simp [frN, cells]; omega)
                    clear HRU HRZ hrr
                    have hcl2 : wz.cell? ad = some (.int .u8 (i : Int)) := by simpa [Addr.add] using hcl
                    clear hcl
                    have hfl : (frN i).length = 1 := rfl
                    go_wp2
                    go_roundw
                    case rel => exact ⟨i + 1, _, _, by omega, by go_num, by rw [hm1]; exact HV2, HBC⟩
                    case measure => simp [intOf]; omega
                  · obtain rfl : tq = i := by omega
                    rw [reap_none] at HPS
                    refine HPS.out.mono ?_
                    rintro e wb ⟨v, u, rfl, hg, ⟨Au, cu, rfl, -, -⟩, hb⟩
                    have hH := Nat.le_refl wb.heap.size
                    clear HPS
                    obtain ⟨ds, rfl, h5, h1⟩ := Rg.form hg
                    have hx := old_alloc (old_below HCS.out hb (row_lt HCS.out)) (.cells ds 29)
                    have hy := heap_alloc_new wb (.cells ds 29)
                    have hg2 := hg.below ((Below.refl wb.heap.size wb).alloc (Nat.le_refl _) (.cells ds 29)) hH
                    have HV2 := Lib.hid (varg_set hg2 (Nat.le_trans hH (by simp)) hx (.inl (row_lt HCS.out)))
                    have HBC : Hid (Below w.heap.size w ((wb.alloc (.cells ds 29)).setRow P ds)) := below_setRow ((HBL.out.trans (hb.mono HBL.out.size)).alloc (by have := HBL.out.size; have := hb.size; omega) _) HNP.out _
                    have HX := Lib.hid hx
                    have HY := Lib.hid hy
                    have HSO := H5
                    have H5 := Lib.hid h5
                    have H1 := Lib.hid h1
                    have hzs : (#[.slice none 0 0, .int .u16 0, .int .u16 0, .int .u16 0, .int .u16 0] : Array Value).size = ds.size := h5.symm
                    clear hg hg2 hb hx hy h5 h1 hH
                    go_upto_region 30 with (refine wpList_store_new rfl 29 _ _ rfl wb #[.slice none 0 0, .int .u16 0, .int .u16 0, .int .u16 0, .int .u16 0] ds rfl rfl (sz_rg H5.out) (hzs) H1.out ?_)
                    go_upto_region 31 with (first | refine wpList_load_row rfl 29 _ rfl wb.heap.size rfl 29 ds (0, 0) _ HY.out Try.underlying29 rfl (sz_rg H5.out) ?_ | refine wpList_store_row rfl 29 _ _ rfl P ds rfl rfl 29 _ HX.out (sz_rg H5.out) (HSO.out.trans H5.out.symm) H1.out ?_)
                    generalize ((wb.alloc (.cells ds 29)).setRow P ds) = wz at HV2 HBC ⊢
                    clear HX HY H5 H1 HSO HCS hzs hout
                    have hm1 : min (tq + 1) tq = tq := by omega
                    go_wp2
                    go_roundw
                    case rel => exact ⟨tq + 1, _, _, by omega, by go_num, by rw [hm1]; exact HV2, HBC⟩
                    case measure => simp [intOf]
                · have hm1 : min i tq = tq := by omega
                  have hie3 : ¬ (i : Int) < (tq : Int) + 1 := by omega
                  rw [hm1] at HV
                  clear hm1 hlt hi kbu
                  generalize wr = wx4 at HV HBL ⊢
                  generalize hrk : (k + tq) % 65536 = rk at HV
                  have hrk2 : rk < 65536 := by omega
                  clear hrk
                  obtain ⟨⟨cs, hcs, hg⟩, hout, hle⟩ := HV.out
                  obtain ⟨cs', hcv, h5, h1⟩ := Rg.form hg
                  injection hcv with hcv
                  subst hcv
                  have HCS := Lib.hid hcs
                  have H5 := Lib.hid h5
                  have HOK : Hid ((XF n rk tq tq tq n).Ok) := XF_ok HMN.out hrk2 (Nat.le_refl _) (Nat.le_refl _) (by omega) (by omega)
                  have HPS := Lib.hid (rg_post hg HOK.out hle none 0 0 0 [] Rd.nil (Nat.zero_le _) (fun _ => rfl) (by simp))
                  clear hcs hg h1 h5 hle
                  go_wp2_with (refine wpList_load_row rfl 29 _ rfl P rfl 29 cs (0, 0) _ HCS.out Try.underlying29 rfl (sz_rg H5.out) ?_)
                  by_cases hz : tq = 0
                  · subst hz
                    have hpf : postX (XF n rk 0 0 0 n) [] = (XF n rk 0 0 0 n, 5) := post_full [] (by simp)
                    rw [hpf] at HPS
                    refine HPS.out.mono ?_
                    rintro e wb ⟨v, rfl, hg, hb⟩
                    obtain ⟨ds, rfl, h5, h1⟩ := Rg.form hg
                    have hx := old_alloc (old_below HCS.out hb (row_lt HCS.out)) (.cells ds 29)
                    have HVE := Lib.hid ((HV.out.below hb).below ((Below.refl wb.heap.size wb).alloc (Nat.le_refl _) (.cells ds 29)))
                    have HBC : Hid (Below w.heap.size w (wb.alloc (.cells ds 29))) := (HBL.out.trans (hb.mono HBL.out.size)).alloc (by have := HBL.out.size; have := hb.size; omega) _
                    have H5 := Lib.hid h5
                    have H1 := Lib.hid h1
                    have hzs : (#[.slice none 0 0, .int .u16 0, .int .u16 0, .int .u16 0, .int .u16 0] : Array Value).size = ds.size := h5.symm
                    clear hg hb hx h5 h1 HPS
                    go_upto_region 35 with (refine wpList_store_new rfl 29 _ _ rfl wb #[.slice none 0 0, .int .u16 0, .int .u16 0, .int .u16 0, .int .u16 0] ds rfl rfl (sz_rg H5.out) (hzs) H1.out ?_)
                    generalize wb.alloc (.cells ds 29) = wz at HVE HBC ⊢
                    clear HCS H5 H1 hzs hout
                    obtain ⟨⟨cs, hcs, hg⟩, -, -⟩ := HVE.out
                    have HLN := Lib.hid (rg_len hg HOK.out wz)
                    obtain ⟨S7, A7, c7, vs7, m7, -, hcv2, -⟩ := hg
                    injection hcv2 with hcv2
                    subst hcv2
                    unfold rgC at hcs HLN
                    obtain ⟨a0, a1, a2, a3, a4⟩ := five_cells hcs
                    clear hcs
                    go_wp2_with fail
                    clear a0 a1 a2 a3 a4
                    refine HLN.out.mono ?_
                    rintro e wq ⟨rfl, hbq⟩
                    have HE := Lib.hid (HBC.out.trans (hbq.mono HBC.out.size))
                    have hll : (((XF n rk 0 0 0 n).len : Nat) : Int) = (n : Int) := by rw [XF_len]; omega
                    clear hbq
                    go_wp2
                    go_ret
                    exact ⟨rfl, HE.out⟩
                  · have hpf : (postX (XF n rk tq tq tq n) []).2 = 0 := by
                      unfold postX
                      rw [if_neg (by simp), if_neg (by rw [XF_len]; show _ ≠ n; omega)]
                    rw [hpf] at HPS
                    have hz1 : (0 : Int) < (tq : Int) := by omega
                    refine HPS.out.mono ?_
                    rintro e wb ⟨v, rfl, hg, hb⟩
                    obtain ⟨ds, rfl, h5, h1⟩ := Rg.form hg
                    have hx := old_alloc (old_below HCS.out hb (row_lt HCS.out)) (.cells ds 29)
                    have HVE := Lib.hid ((HV.out.below hb).below ((Below.refl wb.heap.size wb).alloc (Nat.le_refl _) (.cells ds 29)))
                    have HBC : Hid (Below w.heap.size w (wb.alloc (.cells ds 29))) := (HBL.out.trans (hb.mono HBL.out.size)).alloc (by have := HBL.out.size; have := hb.size; omega) _
                    have H5 := Lib.hid h5
                    have H1 := Lib.hid h1
                    have hzs : (#[.slice none 0 0, .int .u16 0, .int .u16 0, .int .u16 0, .int .u16 0] : Array Value).size = ds.size := h5.symm
                    clear hg hb hx h5 h1 HPS
                    go_upto_region 35 with (refine wpList_store_new rfl 29 _ _ rfl wb #[.slice none 0 0, .int .u16 0, .int .u16 0, .int .u16 0, .int .u16 0] ds rfl rfl (sz_rg H5.out) (hzs) H1.out ?_)
                    generalize wb.alloc (.cells ds 29) = wz at HVE HBC ⊢
                    clear HCS H5 H1 hzs hout
                    obtain ⟨⟨cs, hcs, hg⟩, -, -⟩ := HVE.out
                    have HLN := Lib.hid (rg_len hg HOK.out wz)
                    obtain ⟨S7, A7, c7, vs7, m7, -, hcv2, -⟩ := hg
                    injection hcv2 with hcv2
                    subst hcv2
                    unfold rgC at hcs HLN
                    obtain ⟨a0, a1, a2, a3, a4⟩ := five_cells hcs
                    clear hcs
                    go_wp2_with fail
                    clear a0 a1 a2 a3 a4
                    refine HLN.out.mono ?_
                    rintro e wq ⟨rfl, hbq⟩
                    have HE := Lib.hid (HBC.out.trans (hbq.mono HBC.out.size))
                    have hll : (((XF n rk tq tq tq n).len : Nat) : Int) = (n : Int) - (tq : Int) := by rw [XF_len]; omega
                    clear hbq
                    go_wp2
                    go_ret
                    exact ⟨rfl, HE.out⟩
end Go.Proofs.Ytdbiledmokldjaa
