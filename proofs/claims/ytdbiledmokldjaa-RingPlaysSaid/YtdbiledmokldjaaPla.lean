/-
  The law RingPlays: every int, every count and every slice of ops. No condition.
-/
import Derived.Test.YtdbiledmokldjaaStR
namespace Go.Proofs.Ytdbiledmokldjaa
open Go.RowKit

/-- the two variables, written in either order -/
theorem two_end {w w5 : World} {z u : Array Value} {a b C lo hi : Nat} {x : Rn} {o1 o2 : Array Value} (hab : a ≠ b) (hh : Rg lo hi x w5 (.agg z)) (hl : hi ≤ w5.heap.size) (ho1 : a < lo ∨ hi ≤ a) (ho2 : b < lo ∨ hi ≤ b) (hr : Rf x w5 (.agg u)) (hM : w5.heap[a]? = some (.cells o1 29 (0, 0))) (hK : w5.heap[b]? = some (.cells o2 32 (0, 0))) (hb : Below C w w5) (ha : C ≤ a) (hcb : C ≤ b) :
    (VarG a lo hi x ((w5.setRow a z).setRow b u) ∧ VarF b x ((w5.setRow a z).setRow b u) ∧ Below C w ((w5.setRow a z).setRow b u)) ∧
    (VarG a lo hi x ((w5.setRow b u).setRow a z) ∧ VarF b x ((w5.setRow b u).setRow a z) ∧ Below C w ((w5.setRow b u).setRow a z)) := by
  have hM2 := setRow_heap w5 a _ z _ _ hM
  have hK2 := setRow_heap w5 b _ u _ _ hK
  have hMK : (w5.setRow a z).heap[b]? = some (.cells o2 32 (0, 0)) := (setRow_other _ _ _ _ (fun e => hab e.symm)).trans hK
  have hKM : (w5.setRow b u).heap[a]? = some (.cells o1 29 (0, 0)) := (setRow_other _ _ _ _ hab).trans hM
  refine ⟨⟨⟨⟨z, (setRow_other _ _ _ _ hab).trans hM2, (hh.stay (Stay.row _ ho1 _)).stay (Stay.row _ ho2 _)⟩, ho1, by simp [World.setRow]; exact hl⟩, ⟨u, setRow_heap _ _ _ _ _ _ hMK, (hr.other hM (by decide) (setRow_cells _ _ _)).other hMK (by decide) (setRow_cells _ _ _)⟩, below_setRow (below_setRow hb ha _) hcb _⟩,
    ⟨⟨z, setRow_heap _ _ _ _ _ _ hKM, (hh.stay (Stay.row _ ho2 _)).stay (Stay.row _ ho1 _)⟩, ho1, by simp [World.setRow]; exact hl⟩, ⟨u, (setRow_other _ _ _ _ (fun e => hab e.symm)).trans hK2, (hr.other hK (by decide) (setRow_cells _ _ _)).other hKM (by decide) (setRow_cells _ _ _)⟩, below_setRow (below_setRow hb hcb _) ha _⟩
theorem VarG.drew {N lo hi : Nat} {x : Rn} {w : World} (h : VarG N lo hi x w) (k : Nat) : VarG N lo hi x (w.drewN k) := h.below (below_drewN' (Below.refl _ _) k)
theorem VarF.below {N B : Nat} {x : Rn} {w w' : World} (h : VarF N x w) (hb : Below B w w') (hB : w.heap.size ≤ B := by first | exact Nat.le_refl _ | simp) : VarF N x w' := by
  obtain ⟨cs, h1, h2⟩ := h
  exact ⟨cs, old_below h1 hb (by have := row_lt h1; omega), h2.below hb hB⟩
set_option maxRecDepth 100000 in
set_option maxHeartbeats 16000000 in
theorem plays_any (sz : Int) (k0 : Nat) (A : Option Addr) (nl c : Nat) (l : List Opp) (w : World) (hk : k0 < 65536) (h : OpsT w w.heap.size A l) (hl : l.length = nl) (hnl : nl ≤ 140737488351232) :
    Calls Try.prog 3 #[.int .i64 sz, .int .u16 (k0 : Int), .slice A nl c] w fun e w' => e = .returned (.bool true) ∧ Below w.heap.size w w' := by
  have HOPS := Lib.hid h
  have HLN := Lib.hid hl
  have HFT := Lib.hid (fun w' (hb : Below w.heap.size w w') => fits_any A nl c w.heap.size l w' (h.below hb (Nat.le_refl _)) hb.size hl hnl)
  obtain ⟨q, hq, hq5⟩ := u64_rem sz 5 (by decide) (by decide)
  change (IntKind.u64.wrap sz).tmod 5 = (q : Int) at hq
  obtain ⟨n, hn, hsh⟩ := shl_may q hq5
  have HMN := Lib.hid hn
  clear h hl hn
  go_enter Try.func3, Try.ntmps3
  go_wp2_with fail
  refine (lives_any _).mono ?_
  rintro e w1 ⟨rfl, hb1⟩
  have HB0 := Lib.hid hb1
  clear hb1
  go_wp2_with fail
  refine (HFT.out _ HB0.out).mono ?_
  rintro e w1' ⟨rfl, hb2⟩
  have HB1 := Lib.hid (HB0.out.trans (hb2.mono HB0.out.size))
  clear hb2 HB0 HFT
  cases hft : fitsB l
  · clear hft
    go_wp2_with fail
    refine (lives_any _).mono ?_
    rintro e w3 ⟨rfl, hb3⟩
    have HB3 := Lib.hid (HB1.out.trans (hb3.mono HB1.out.size))
    clear hb3
    go_wp2
    go_ret
    exact ⟨rfl, HB3.out⟩
  · have hfl : nl ≤ 100 ∧ ∀ o ∈ l, o.data.length ≤ 300 := by
      unfold fitsB at hft
      simp only [Bool.and_eq_true, List.all_eq_true, decide_eq_true_eq] at hft
      exact ⟨by rw [← HLN.out]; exact hft.2, hft.1⟩
    have hn60 := hfl.1
    have HDAT := Lib.hid hfl.2
    clear hft hfl hnl
    go_upto_region 4 with (fail)
    go_wp2_with fail
    refine (at_any n k0 HMN.out hk w1').mono ?_
    rintro e w2 ⟨v, u, H, rfl, hg, hH, hf, hb⟩
    obtain ⟨cs, rfl, h5, h1⟩ := Rg.form hg
    obtain ⟨ds, rfl, h5p, h1p⟩ := Rf.form hf
    have hb0 : Below w2.heap.size w2 ((w2.alloc (.cells #[.slice none 0 0, .int .u16 0, .int .u16 0, .int .u16 0, .int .u16 0] 29)).alloc (.cells #[.int .i64 0, .slice none 0 0, .slice none 0 0, .slice none 0 0, .int .i64 0] 32)) := ((Below.refl _ _).alloc (Nat.le_refl _) _).alloc (by simp) _
    have hz : w2.heap.size + 2 = ((w2.alloc (.cells #[.slice none 0 0, .int .u16 0, .int .u16 0, .int .u16 0, .int .u16 0] 29)).alloc (.cells #[.int .i64 0, .slice none 0 0, .slice none 0 0, .slice none 0 0, .int .i64 0] 32)).heap.size := by simp
    have hx1 : ((w2.alloc (.cells #[.slice none 0 0, .int .u16 0, .int .u16 0, .int .u16 0, .int .u16 0] 29)).alloc (.cells #[.int .i64 0, .slice none 0 0, .slice none 0 0, .slice none 0 0, .int .i64 0] 32)).heap[w2.heap.size]? = some (.cells #[.slice none 0 0, .int .u16 0, .int .u16 0, .int .u16 0, .int .u16 0] 29 (0, 0)) := old_alloc (heap_alloc_new w2 _) _
    have hx2 : (((w2.alloc (.cells #[.slice none 0 0, .int .u16 0, .int .u16 0, .int .u16 0, .int .u16 0] 29)).alloc (.cells #[.int .i64 0, .slice none 0 0, .slice none 0 0, .slice none 0 0, .int .i64 0] 32)).setRow w2.heap.size cs).heap[w2.heap.size + 1]? = some (.cells #[.int .i64 0, .slice none 0 0, .slice none 0 0, .slice none 0 0, .int .i64 0] 32 (0, 0)) := (setRow_other _ _ _ _ (by omega)).trans (new_at1 w2 _ _)
    have hg2 : Rg w1'.heap.size H (newX n k0) (((w2.alloc (.cells #[.slice none 0 0, .int .u16 0, .int .u16 0, .int .u16 0, .int .u16 0] 29)).alloc (.cells #[.int .i64 0, .slice none 0 0, .slice none 0 0, .slice none 0 0, .int .i64 0] 32)).setRow w2.heap.size cs) (.agg cs) := (hg.below hb0 hH).stay (Stay.row _ (.inr hH) _)
    have HV : Hid (VarG w2.heap.size w1'.heap.size H (newX n k0) ((((w2.alloc (.cells #[.slice none 0 0, .int .u16 0, .int .u16 0, .int .u16 0, .int .u16 0] 29)).alloc (.cells #[.int .i64 0, .slice none 0 0, .slice none 0 0, .slice none 0 0, .int .i64 0] 32)).setRow w2.heap.size cs).setRow (w2.heap.size + 1) ds)) := ⟨⟨cs, (setRow_other _ _ _ _ (by omega)).trans (setRow_heap _ _ _ _ _ _ hx1), hg2.stay (Stay.row _ (.inr (by omega)) _)⟩, .inr hH, by simp [World.setRow]; omega⟩
    have HVF : Hid (VarF (w2.heap.size + 1) (newX n k0) ((((w2.alloc (.cells #[.slice none 0 0, .int .u16 0, .int .u16 0, .int .u16 0, .int .u16 0] 29)).alloc (.cells #[.int .i64 0, .slice none 0 0, .slice none 0 0, .slice none 0 0, .int .i64 0] 32)).setRow w2.heap.size cs).setRow (w2.heap.size + 1) ds)) := ⟨ds, setRow_heap _ _ _ _ _ _ hx2, ((hf.below hb0).other hx1 (by decide) (setRow_cells _ _ _)).other hx2 (by decide) (setRow_cells _ _ _)⟩
    have HBL : Hid (Below w.heap.size w ((((w2.alloc (.cells #[.slice none 0 0, .int .u16 0, .int .u16 0, .int .u16 0, .int .u16 0] 29)).alloc (.cells #[.int .i64 0, .slice none 0 0, .slice none 0 0, .slice none 0 0, .int .i64 0] 32)).setRow w2.heap.size cs).setRow (w2.heap.size + 1) ds)) := below_setRow (below_setRow ((HB1.out.trans (hb.mono HB1.out.size)).trans (hb0.mono (by have := HB1.out.size; have := hb.size; omega))) (by have := HB1.out.size; have := hb.size; omega) _) (by have := HB1.out.size; have := hb.size; omega) _
    have HNP : Hid (w.heap.size ≤ w2.heap.size) := by have := HB1.out.size; have := hb.size; show _ ≤ _; omega
    have HX1 := Lib.hid hx1
    have HX2 := Lib.hid hx2
    have H5 := Lib.hid h5
    have H1 := Lib.hid h1
    have H5p := Lib.hid h5p
    have H1p := Lib.hid h1p
    have HHP := Lib.hid hH
    clear hg hf hb hb0 hz hx1 hx2 hg2 hH h5 h1 h5p h1p
    go_upto_region 5 with (first | refine wpList_store_row rfl 29 _ _ rfl w2.heap.size cs rfl rfl 29 _ HX1.out (sz_rg H5.out) (H5.out.symm) H1.out ?_ | refine wpList_store_row rfl 32 _ _ rfl (w2.heap.size + 1) ds rfl rfl 32 _ HX2.out (sz_rf H5p.out) (H5p.out.symm) H1p.out ?_)
    generalize (((w2.alloc (.cells #[.slice none 0 0, .int .u16 0, .int .u16 0, .int .u16 0, .int .u16 0] 29)).alloc (.cells #[.int .i64 0, .slice none 0 0, .slice none 0 0, .slice none 0 0, .int .i64 0] 32)).setRow w2.heap.size cs).setRow (w2.heap.size + 1) ds = w3 at HV HVF HBL ⊢
    generalize w2.heap.size = P at HV HVF HNP HHP ⊢
    clear HX1 HX2 H5 H1 H5p H1p
    generalize w1'.heap.size = lo at HV
    have hrel := HV
    clear HV
    clear hsh hq hq5 HB1
    have HOKX : Hid ((newX n k0).Ok) := ok_new HMN.out hk
    have HM2 : Hid (P + 1 < lo ∨ H ≤ P + 1) := .inr (Nat.le_trans HHP.out (Nat.le_succ _))
    have HNM : Hid (w.heap.size ≤ P + 1) := Nat.le_trans HNP.out (Nat.le_succ _)
    generalize hPM : P + 1 = M at *
    go_wp2
    go_loopw [35] (fun t35 wr => ∃ (k lo hi : Nat) (x : Rn), k ≤ nl ∧ t35 = .int .i64 (k : Int) ∧ Hid (VarG P lo hi x wr) ∧ Hid (VarF M x wr) ∧ Hid (x.Ok) ∧ Hid (M < lo ∨ hi ≤ M) ∧ Hid (Below w.heap.size w wr)) (fun t35 _ => nl - (intOf t35).toNat)
    case atStart => exact ⟨0, _, _, _, Nat.zero_le _, rfl, hrel, HVF, HOKX, HM2, HBL⟩
    case round =>
      obtain ⟨k, lo1, hi1, x, hk1, rfl, HV, HVF2, HR, HMO, HBEL⟩ := hrel
      by_cases hlt : k < nl
      · obtain ⟨o, ho⟩ : ∃ o, l[k]? = some o := ⟨_, List.getElem?_eq_getElem (by rw [HLN.out]; exact hlt)⟩
        obtain ⟨ad, A', cc, rfl, -, hcs, hrd, hAn, hdc, hcc, hik⟩ := (HOPS.out k o ho).below HBEL.out (Nat.le_refl _)
        have HEL := Lib.hid hcs
        have HAN := Lib.hid hAn
        have HDL : Hid (o.data.length ≤ 300) := HDAT.out o (List.mem_of_getElem? ho)
        obtain ⟨⟨cs, hx, hg⟩, hou, hle⟩ := HV.out
        obtain ⟨A0, n0, c0, p0, t0, d0, r0, hv⟩ := hg.form_
        injection hv with hv
        subst hv
        obtain ⟨ds, hxf, hf⟩ := HVF2.out
        obtain ⟨m1, E1, i1, x1, F1, j1, y1, G1, k1, z1, o1, hv⟩ := hf.form_
        injection hv with hv
        subst hv
        have hba := (Below.refl wr.heap.size wr).alloc (Nat.le_refl _) (.cells #[.int .i64 o.kind, .slice A' o.data.length cc] 37)
        have HX := Lib.hid (old_below hx hba (row_lt hx))
        have HXF := Lib.hid (old_below hxf hba (row_lt hxf))
        have HG := Lib.hid (hg.below hba hle)
        have HGL := Lib.hid (Nat.le_trans hle hba.size)
        have HF := Lib.hid (hf.below hba)
        have HY := Lib.hid (heap_alloc_new wr (.cells #[.int .i64 o.kind, .slice A' o.data.length cc] 37))
        have HBW := Lib.hid (HBEL.out.trans (hba.mono HBEL.out.size))
        have HRD2 := Lib.hid (hrd.below hba HBEL.out.size)
        have HPW : Hid (P < wr.heap.size ∧ M < wr.heap.size) := ⟨row_lt hx, row_lt hxf⟩
        unfold opC at HEL
        obtain ⟨r, hr8, hr9⟩ := u64_rem o.kind 6 (by decide) (by decide)
        change (IntKind.u64.wrap o.kind).tmod 6 = (r : Int) at hr8
        have HR8 := Lib.hid hr8
        clear hcs hrd hAn hdc hcc hx hg hxf hf ho hik hr8 hba hle HV HVF2
        go_upto_region 8 with (first | refine wpList_load_at rfl 37 _ rfl (ad.add (k * 2)) rfl [.int .i64 o.kind, .slice A' o.data.length cc] _ HEL.out Try.underlying37 rfl (by kernel_rfl) ?_)
        generalize wr.alloc (.cells #[.int .i64 o.kind, .slice A' o.data.length cc] 37) = wa at HX HXF HY HBW HG HGL HF HRD2 ⊢
        generalize wr.heap.size = b5 at HY HPW ⊢
        have HSA := Lib.hid (step_any o.kind A' cc w.heap.size r o.data wa HG.out HGL.out HF.out HR.out HDL.out HAN.out HRD2.out HBW.out.size hr9 HR8.out)
        have HR2 := Lib.hid (step_ok HR.out r o.data)
        clear HEL
        go_wp2_with (first | refine wpList_load_row rfl 29 _ rfl P rfl 29 #[.slice A0 n0 c0, .int .u16 p0, .int .u16 t0, .int .u16 d0, .int .u16 r0] (0, 0) _ HX.out Try.underlying29 rfl (by kernel_rfl) ?_ | refine wpList_load_row rfl 32 _ rfl M rfl 32 #[.int .i64 m1, .slice E1 i1 x1, .slice F1 j1 y1, .slice G1 k1 z1, .int .i64 o1] (0, 0) _ HXF.out Try.underlying32 rfl (by kernel_rfl) ?_ | refine wpList_load_row rfl 37 _ rfl b5 rfl 37 #[.int .i64 o.kind, .slice A' o.data.length cc] (0, 0) _ HY.out Try.underlying37 rfl (by kernel_rfl) ?_)
        refine HSA.out.mono ?_
        rintro e wb ⟨v', x', lo2, hi2, rfl, hgb, hlo2, hhi2, hfb, hbb⟩
        obtain ⟨A4, n4, c4, p4, t4, d4, r4, rfl⟩ := hgb.form_
        obtain ⟨m5, E5, i5, x5, F5, j5, y5, G5, k5, z5, o5, rfl⟩ := hfb.form_
        generalize stepX r o.data x = xn at *
        have h1 : ((wb.alloc (.cells #[.slice none 0 0, .int .u16 0, .int .u16 0, .int .u16 0, .int .u16 0] 29)).alloc (.cells #[.int .i64 0, .slice none 0 0, .slice none 0 0, .slice none 0 0, .int .i64 0] 32)).heap[wb.heap.size]? = some (.cells #[.slice none 0 0, .int .u16 0, .int .u16 0, .int .u16 0, .int .u16 0] 29 (0, 0)) := old_alloc (heap_alloc_new wb _) _
        have h2 : (((wb.alloc (.cells #[.slice none 0 0, .int .u16 0, .int .u16 0, .int .u16 0, .int .u16 0] 29)).alloc (.cells #[.int .i64 0, .slice none 0 0, .slice none 0 0, .slice none 0 0, .int .i64 0] 32)).setRow wb.heap.size #[.slice A4 n4 c4, .int .u16 p4, .int .u16 t4, .int .u16 d4, .int .u16 r4]).heap[wb.heap.size + 1]? = some (.cells #[.int .i64 0, .slice none 0 0, .slice none 0 0, .slice none 0 0, .int .i64 0] 32 (0, 0)) := (setRow_other _ _ _ _ (by omega)).trans (new_at1 wb _ _)
        have hb8 : Below wb.heap.size wb ((((wb.alloc (.cells #[.slice none 0 0, .int .u16 0, .int .u16 0, .int .u16 0, .int .u16 0] 29)).alloc (.cells #[.int .i64 0, .slice none 0 0, .slice none 0 0, .slice none 0 0, .int .i64 0] 32)).setRow wb.heap.size #[.slice A4 n4 c4, .int .u16 p4, .int .u16 t4, .int .u16 d4, .int .u16 r4]).setRow (wb.heap.size + 1) #[.int .i64 m5, .slice E5 i5 x5, .slice F5 j5 y5, .slice G5 k5 z5, .int .i64 o5]) := below_setRow (below_setRow (((Below.refl _ _).alloc (Nat.le_refl _) _).alloc (by simp) _) (Nat.le_refl _) _) (Nat.le_succ _) _
        have HH1 := Lib.hid h1
        have HH2 := Lib.hid h2
        have HXn := Lib.hid ((setRow_other _ (wb.heap.size + 1) wb.heap.size (#[.int .i64 m5, .slice E5 i5 x5, .slice F5 j5 y5, .slice G5 k5 z5, .int .i64 o5] : Array Value) (by omega)).trans (setRow_heap _ _ _ (#[.slice A4 n4 c4, .int .u16 p4, .int .u16 t4, .int .u16 d4, .int .u16 r4] : Array Value) _ _ h1))
        have HUn := Lib.hid (setRow_heap _ _ _ (#[.int .i64 m5, .slice E5 i5 x5, .slice F5 j5 y5, .slice G5 k5 z5, .int .i64 o5] : Array Value) _ _ h2)
        have HGn := Lib.hid (hgb.below hb8 hhi2)
        have HGnL := Lib.hid (Nat.le_trans hhi2 hb8.size)
        have HFn := Lib.hid (hfb.below hb8)
        have HLO : Hid (P < lo2 ∧ M < lo2) := by have := HPW.out; have h3 := row_lt HX.out; have h4 := row_lt HXF.out; show _ ∧ _; omega
        have hbq : Below wa.heap.size wa ((((wb.alloc (.cells #[.slice none 0 0, .int .u16 0, .int .u16 0, .int .u16 0, .int .u16 0] 29)).alloc (.cells #[.int .i64 0, .slice none 0 0, .slice none 0 0, .slice none 0 0, .int .i64 0] 32)).setRow wb.heap.size #[.slice A4 n4 c4, .int .u16 p4, .int .u16 t4, .int .u16 d4, .int .u16 r4]).setRow (wb.heap.size + 1) #[.int .i64 m5, .slice E5 i5 x5, .slice F5 j5 y5, .slice G5 k5 z5, .int .i64 o5]) := hbb.trans (hb8.mono hbb.size)
        have HNQ : Hid (P < wb.heap.size ∧ M < wb.heap.size) := ⟨row_lt (old_below HX.out hbb (row_lt HX.out)), row_lt (old_below HXF.out hbb (row_lt HXF.out))⟩
        clear h1 h2 hb8 hgb hfb hbb HRD2 HY HSA HPW hlo2 hhi2
        have HX := Lib.hid (old_below HX.out hbq (row_lt HX.out))
        have HXF := Lib.hid (old_below HXF.out hbq (row_lt HXF.out))
        have HG := Lib.hid (HG.out.below hbq HGL.out)
        have HGL := Lib.hid (Nat.le_trans HGL.out hbq.size)
        have HF := Lib.hid (HF.out.below hbq)
        have HBW := Lib.hid (HBW.out.trans (hbq.mono HBW.out.size))
        clear hbq
        go_upto_region 9 with (first | refine wpList_store_row rfl 29 _ _ rfl wb.heap.size #[.slice A4 n4 c4, .int .u16 p4, .int .u16 t4, .int .u16 d4, .int .u16 r4] rfl rfl 29 _ HH1.out (by kernel_rfl) (rfl) (ring_ones _ _ _ _ _ _ _) ?_ | refine wpList_store_row rfl 32 _ _ rfl (wb.heap.size + 1) #[.int .i64 m5, .slice E5 i5 x5, .slice F5 j5 y5, .slice G5 k5 z5, .int .i64 o5] rfl rfl 32 _ HH2.out (by kernel_rfl) (rfl) (rf_ones _ _ _ _ _ _ _ _ _ _ _) ?_)
        generalize ((((wb.alloc (.cells #[.slice none 0 0, .int .u16 0, .int .u16 0, .int .u16 0, .int .u16 0] 29)).alloc (.cells #[.int .i64 0, .slice none 0 0, .slice none 0 0, .slice none 0 0, .int .i64 0] 32)).setRow wb.heap.size #[.slice A4 n4 c4, .int .u16 p4, .int .u16 t4, .int .u16 d4, .int .u16 r4]).setRow (wb.heap.size + 1) #[.int .i64 m5, .slice E5 i5 x5, .slice F5 j5 y5, .slice G5 k5 z5, .int .i64 o5]) = wc at HX HXF HXn HUn HG HGL HF HGn HGnL HFn HBW ⊢
        clear HH1 HH2
        generalize wb.heap.size = Q at HXn HUn HNQ ⊢
        have HLa := Lib.hid (fun (W : World) (hb : Below wc.heap.size wc W) => like_any W (HF.out.below hb) (HG.out.below hb HGL.out) HR.out (Nat.le_trans HGL.out hb.size))
        have HLb := Lib.hid (fun (W : World) (hb : Below wc.heap.size wc W) => like_any W (HFn.out.below hb) (HGn.out.below hb HGnL.out) HR2.out (Nat.le_trans HGnL.out hb.size))
        have HLc := Lib.hid (fun (W : World) (hb : Below wc.heap.size wc W) => rg_right (HGn.out.below hb HGnL.out) HR2.out (Nat.le_trans HGnL.out hb.size))
        have HLd := Lib.hid (fun (W : World) => rg_len HGn.out HR2.out W)
        have HLe := Lib.hid (fun (W : World) => rf_len HFn.out HR2.out W)
        obtain ⟨xl, hxl⟩ : ∃ k, xn.len = k := ⟨_, rfl⟩
        rw [hxl] at HLd HLe
        clear hxl
        obtain ⟨a0, a1, a2, a3, a4⟩ := five_cells HXn.out
        obtain ⟨b0, b1, b2, b3, b4⟩ := five_cells HUn.out
        obtain ⟨p0', p1', p2', p3', p4'⟩ := five_cells HX.out
        obtain ⟨q0, q1, q2, q3, q4⟩ := five_cells HXF.out
        have ka0 := cell_regrown a0
        have kb0 := cell_regrown b0
        have kp0 := cell_regrown p0'
        have kq0 := cell_regrown q0
        have ka1 := cell_regrown a1
        have kb1 := cell_regrown b1
        have kp1 := cell_regrown p1'
        have kq1 := cell_regrown q1
        have ka2 := cell_regrown a2
        have kb2 := cell_regrown b2
        have kp2 := cell_regrown p2'
        have kq2 := cell_regrown q2
        have ka3 := cell_regrown a3
        have kb3 := cell_regrown b3
        have kp3 := cell_regrown p3'
        have kq3 := cell_regrown q3
        have ka4 := cell_regrown a4
        have kb4 := cell_regrown b4
        have kp4 := cell_regrown p4'
        have kq4 := cell_regrown q4
        clear a0 a1 a2 a3 a4 b0 b1 b2 b3 b4 p0' p1' p2' p3' p4' q0 q1 q2 q3 q4
        refine wp_region_quiet_below (by kernel_rfl) (by kernel_rfl) ?_
        repeat (quiet_step (first | (go_at_call_of 10 (Value.slice A0 n0 c0); exact Calls.regrown_of (HLa.out _ (below_regrown wc _ _))) | (go_at_call_of 10 (Value.slice A4 n4 c4); exact Calls.regrown_of (HLb.out _ (below_regrown wc _ _))) | (go_at_call 11; exact Calls.regrown_of (HLc.out _ (below_regrown wc _ _))) | (go_at_call 12; exact Calls.regrown_of (HLd.out _)) | (go_at_call 13; exact Calls.regrown_of (HLe.out _))))
        refine wpQuiet_nil ?_
        intro wh hw'
        obtain ⟨⟨dq, osq⟩, rfl⟩ := hw'
        have hbq := below_regrown wc dq osq
        clear ka0 kb0 kp0 kq0 ka1 kb1 kp1 kq1 ka2 kb2 kp2 kq2 ka3 kb3 kp3 kq3 ka4 kb4 kp4 kq4 HLa HLb HLc HLd HLe
        generalize «Sort».grow (redrawn wc dq) osq = wh at hbq ⊢
        have HX := Lib.hid (old_below HX.out hbq (row_lt HX.out))
        have HXF := Lib.hid (old_below HXF.out hbq (row_lt HXF.out))
        have HXn := Lib.hid (old_below HXn.out hbq (row_lt HXn.out))
        have HUn := Lib.hid (old_below HUn.out hbq (row_lt HUn.out))
        have HG := Lib.hid (HG.out.below hbq HGL.out)
        have HGL := Lib.hid (Nat.le_trans HGL.out hbq.size)
        have HF := Lib.hid (HF.out.below hbq)
        have HBW := Lib.hid (HBW.out.trans (hbq.mono HBW.out.size))
        have HGn := Lib.hid (HGn.out.below hbq HGnL.out)
        have HGnL := Lib.hid (Nat.le_trans HGnL.out hbq.size)
        have HFn := Lib.hid (HFn.out.below hbq)
        clear hbq
        obtain ⟨a0, a1, a2, a3, a4⟩ := five_cells HXn.out
        obtain ⟨b0, b1, b2, b3, b4⟩ := five_cells HUn.out
        obtain ⟨p0', p1', p2', p3', p4'⟩ := five_cells HX.out
        obtain ⟨q0, q1, q2, q3, q4⟩ := five_cells HXF.out
        have g0 := frozen_of_row wh P 0 _ _ HX.out
        have l0 := frozen_of_row wh M 0 _ _ HXF.out
        have g1 := frozen_of_row wh P 1 _ _ HX.out
        have l1 := frozen_of_row wh M 1 _ _ HXF.out
        have g2 := frozen_of_row wh P 2 _ _ HX.out
        have l2 := frozen_of_row wh M 2 _ _ HXF.out
        have g3 := frozen_of_row wh P 3 _ _ HX.out
        have l3 := frozen_of_row wh M 3 _ _ HXF.out
        have g4 := frozen_of_row wh P 4 _ _ HX.out
        have l4 := frozen_of_row wh M 4 _ _ HXF.out
        have hnq := HNQ.out
        have ne1 : ¬ P = Q := by omega
        have ne2 : ¬ P = Q + 1 := by omega
        have ne3 : ¬ M = Q := by omega
        have ne4 : ¬ M = Q + 1 := by omega
        have ne5 : ¬ Q = P := by omega
        have ne6 : ¬ Q + 1 = P := by omega
        have ne7 : ¬ Q = M := by omega
        have ne8 : ¬ Q + 1 = M := by omega
        have ne9 : ¬ P = M := by omega
        have ne0 : ¬ M = P := by omega
        have HEND := Lib.hid (two_end ne9 HGn.out HGnL.out (.inl HLO.out.1) (.inl HLO.out.2) HFn.out HX.out HXF.out HBW.out HNP.out HNM.out)
        go_wp2
        go_region
        all_goals first
          | (rw [row5 HX.out, row5 (w := wh.setRow P _) ((setRow_other _ _ _ _ ne0).trans HXF.out)]
             go_wp2
             go_roundw
             case rel => exact ⟨k + 1, _, _, xn, by omega, by go_num, HEND.out.1.1.below (below_drewN' (Below.refl _ _) 1), HEND.out.1.2.1.below (below_drewN' (Below.refl _ _) 1), HR2, Lib.hid (.inl HLO.out.2), below_drewN' HEND.out.1.2.2 1⟩
             case measure => simp [intOf]; omega)
          | (rw [row5 HXF.out, row5 (w := wh.setRow M _) ((setRow_other _ _ _ _ ne9).trans HX.out)]
             go_wp2
             go_roundw
             case rel => exact ⟨k + 1, _, _, xn, by omega, by go_num, HEND.out.2.1.below (below_drewN' (Below.refl _ _) 1), HEND.out.2.2.1.below (below_drewN' (Below.refl _ _) 1), HR2, Lib.hid (.inl HLO.out.2), below_drewN' HEND.out.2.2.2 1⟩
             case measure => simp [intOf]; omega)
      · obtain rfl : nl = k := by omega
        obtain ⟨⟨cs, hx, hg⟩, hou, hle⟩ := HV.out
        obtain ⟨A0, n0, c0, p0, t0, d0, r0, hv⟩ := hg.form_
        injection hv with hv
        subst hv
        obtain ⟨ds, hxf, hf⟩ := HVF2.out
        obtain ⟨m1, E1, i1, x1, F1, j1, y1, G1, k1, z1, o1, hv⟩ := hf.form_
        injection hv with hv
        subst hv
        have HXF := Lib.hid hxf
        have HF := Lib.hid hf
        have HGG := Lib.hid hg
        have HCL := Lib.hid (fun W (hb : Below wr.heap.size wr W) => rg_clone (hg.below hb hle) HR.out (Nat.le_trans hle hb.size))
        obtain ⟨x0', x1', x2', x3', x4'⟩ := five_cells hx
        obtain ⟨m0', m1', m2', m3', m4'⟩ := five_cells hxf
        clear hx hg hxf hf HV HVF2 HOPS HDAT hle
        go_upto_region 13 with (fail)
        go_region_with (first
          | (go_at_call 14; refine (HCL.out _ (by first | exact Below.refl _ _ | exact below_drewN' (Below.refl _ _) 1 | exact below_drewN' (Below.refl _ _) 2)).mono ?_; rintro e wq ⟨vc, rfl, hgc, hbc⟩; have hbq : Below wr.heap.size wr wq := Below.trans (by first | exact Below.refl _ _ | exact below_drewN' (Below.refl _ _) 1 | exact below_drewN' (Below.refl _ _) 2) (hbc.mono (Nat.le_refl _)); obtain ⟨Ac, nc, cc, pc, tc, dc, rc, rfl⟩ := hgc.form_; have HPC := Lib.hid hgc; have HBQ := Lib.hid hbq; obtain ⟨e0, e1, e2, e3, e4⟩ := five_cells (old_below HXF.out hbq (row_lt HXF.out)); clear hgc hbc hbq)
          | (go_at_call 10; refine (like_any _ (HF.out.below HBQ.out) HPC.out HR.out (Nat.le_refl _)).mono ?_; rintro e wz ⟨rfl, hbz⟩; have HBZ := Lib.hid (HBEL.out.trans ((HBQ.out.trans (hbz.mono HBQ.out.size)).mono HBEL.out.size)); clear hbz))
        all_goals go_wp2
        all_goals go_ret
        all_goals exact ⟨rfl, HBZ.out⟩
end Go.Proofs.Ytdbiledmokldjaa
