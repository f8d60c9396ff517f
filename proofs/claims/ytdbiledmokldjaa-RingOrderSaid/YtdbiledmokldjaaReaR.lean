/-
  ring.Reap. Every right ring. No condition beyond that.
-/
import Derived.Test.YtdbiledmokldjaaTakR
namespace Go.Proofs.Ytdbiledmokldjaa
open Go.RowKit

def reapN (n : Nat) (S : List Fr) (r D : Nat) : List Fr × Nat × Fr × Nat := if D = 0 then (S, r, [], 2) else (S.set (r % n) [], (r + 1) % 65536, S[r % n]?.getD [], 0)
set_option maxRecDepth 100000 in
set_option maxHeartbeats 4000000 in
theorem reap_num (n c p t d r D T P lo m hi : Nat) (A : Option Addr) (S : List Fr) (vs : List Value) (w : World) (hs : RgS lo m hi n S w A c vs) (hn : MayN n) (hS : S.length = n) (hsm : ∀ f ∈ S, f.length ≤ 214) (hhi : hi ≤ w.heap.size) (hp : p < 65536) (ht : t < 65536) (hd : d < 65536) (hr : r < 65536) (h1 : d = (r + D) % 65536) (h2 : t = (r + (D + T)) % 65536) (h3 : p = (r + (D + T + P)) % 65536) (hle : D + T + P ≤ n) :
    Calls Try.prog 18 #[.agg #[.slice A n c, .int .u16 (p : Int), .int .u16 (t : Int), .int .u16 (d : Int), .int .u16 (r : Int)]] w fun e w' => ∃ A' c' vs' m' u, e = .returned (.tuple #[.agg #[.slice A' n c', .int .u16 (p : Int), .int .u16 (t : Int), .int .u16 (d : Int), .int .u16 ((reapN n S r D).2.1 : Int)], u, .int .i64 ((reapN n S r D).2.2.2 : Int)]) ∧ RgS w.heap.size m' w'.heap.size n (reapN n S r D).1 w' A' c' vs' ∧ w.heap.size ≤ m' ∧ BV w.heap.size w'.heap.size (reapN n S r D).2.2.1 w' u ∧ Below w.heap.size w w' := by
  have hpos := hn.pos
  obtain ⟨hp1, hp2⟩ := hpos
  obtain ⟨N, hN⟩ : ∃ N, w.heap.size = N := ⟨_, rfl⟩
  obtain ⟨w1, hw1⟩ : ∃ w1, (w.alloc (.cells #[.slice A n c, .int .u16 (p : Int), .int .u16 (t : Int), .int .u16 (d : Int), .int .u16 (r : Int)] 29)).alloc (.cells #[.slice none 0 0, .int .u16 0, .int .u16 0, .int .u16 0, .int .u16 0] 29) = w1 := ⟨_, rfl⟩
  have HB1 : Hid (Below N w w1) := by rw [← hw1]; exact ((Below.refl _ _).alloc (by omega) _).alloc (by simp; omega) _
  have HZ1 : Hid (w1.heap.size = N + 2) := by rw [← hw1]; show _ = _; simp [hN]
  have RX1 : Hid (w1.heap[N]? = some (.cells #[.slice A n c, .int .u16 (p : Int), .int .u16 (t : Int), .int .u16 (d : Int), .int .u16 (r : Int)] 29 (0, 0))) := by rw [← hw1, ← hN]; exact old_alloc (heap_alloc_new w _) _
  have RY1 : Hid (w1.heap[N + 1]? = some (.cells #[.slice none 0 0, .int .u16 0, .int .u16 0, .int .u16 0, .int .u16 0] 29 (0, 0))) := by rw [← hw1, ← hN]; exact new_at1 w _ _
  have hs1 : RgS 0 m hi n S w1 A c vs := (hs.wide (Nat.zero_le _) (Nat.le_refl _)).stay (Nat.zero_le _) (Stay.of HB1.out (by omega))
  have HCL := Lib.hid (clone_num n c p t d r 0 m hi A S vs w1 hs1 hn hS hsm (Nat.le_trans hhi HB1.out.size))
  have HCN : Hid (∀ (A : Option Addr) (c : Nat) (w : World), Calls Try.prog 26 #[.agg #[.slice A n c, .int .u16 (p : Int), .int .u16 (t : Int), .int .u16 (d : Int), .int .u16 (r : Int)]] w fun e w' => e = .returned (.bool true) ∧ Below w.heap.size w w') := fun A c w => counts_num n c p t d r D T P A w hn hp ht hd hr h1 h2 h3 hle
  have HN := Lib.hid hn
  have HSL := Lib.hid hS
  have HSM := Lib.hid hsm
  have H3 := Lib.hid h3
  have H2 := Lib.hid h2
  have H1 := Lib.hid h1
  rw [hN]
  obtain ⟨c0, c1, c2, c3, c4⟩ := five_cells RX1.out
  clear hs hs1 hn hS hsm h1 h2 h3
  go_enter Try.func18, Try.ntmps18
  go_wp2_with fail
  clear c0 c1 c2 c3 c4
  refine HCL.out.mono ?_
  rintro e w2 ⟨A', c', vs', m', rfl, hs2, hm2, hb2⟩
  have hz1 := HZ1.out
  have hx2 := old_below RX1.out hb2 (by omega)
  have hy2 := old_below RY1.out hb2 (by omega)
  have HX2 := Lib.hid hx2
  have RX : Hid ((w2.setRow N #[.slice A' n c', .int .u16 (p : Int), .int .u16 (t : Int), .int .u16 (d : Int), .int .u16 (r : Int)]).heap[N]? = some (.cells #[.slice A' n c', .int .u16 (p : Int), .int .u16 (t : Int), .int .u16 (d : Int), .int .u16 (r : Int)] 29 (0, 0))) := setRow_heap _ _ _ _ _ _ hx2
  have RY : Hid ((w2.setRow N #[.slice A' n c', .int .u16 (p : Int), .int .u16 (t : Int), .int .u16 (d : Int), .int .u16 (r : Int)]).heap[N + 1]? = some (.cells #[.slice none 0 0, .int .u16 0, .int .u16 0, .int .u16 0, .int .u16 0] 29 (0, 0))) := (setRow_other _ _ _ _ (by omega)).trans hy2
  have HRS : Hid (RgS (N + 2) m' (w2.setRow N #[.slice A' n c', .int .u16 (p : Int), .int .u16 (t : Int), .int .u16 (d : Int), .int .u16 (r : Int)]).heap.size n S (w2.setRow N #[.slice A' n c', .int .u16 (p : Int), .int .u16 (t : Int), .int .u16 (d : Int), .int .u16 (r : Int)]) A' c' vs') := by
    rw [hz1] at hs2 hm2
    exact (hs2.stay hm2 (Stay.row w2 (by omega) _)).wide (Nat.le_refl _) (by simp [World.setRow])
  have HM : Hid (N + 2 ≤ m') := by show _ ≤ _; omega
  have HBN : Hid (Below N w (w2.setRow N #[.slice A' n c', .int .u16 (p : Int), .int .u16 (t : Int), .int .u16 (d : Int), .int .u16 (r : Int)])) := below_setRow (HB1.out.trans (hb2.mono (by omega))) (Nat.le_refl _) _
  clear hs2 hm2 hb2 hx2 hy2 hz1 HZ1 HB1 RX1 RY1 HCL
  go_upto_region 2 with (refine wpList_store_row rfl 29 _ _ rfl N #[.slice A' n c', .int .u16 (p : Int), .int .u16 (t : Int), .int .u16 (d : Int), .int .u16 (r : Int)] rfl rfl 29 _ HX2.out (by kernel_rfl) rfl (ring_ones _ _ _ _ _ _ _) ?_)
  generalize w2.setRow N #[.slice A' n c', .int .u16 (p : Int), .int .u16 (t : Int), .int .u16 (d : Int), .int .u16 (r : Int)] = w3 at RX RY HRS HBN ⊢
  obtain ⟨H, hH⟩ : ∃ H, w3.heap.size = H := ⟨_, rfl⟩
  rw [hH] at HRS
  have HH : Hid (H ≤ w3.heap.size) := Nat.le_of_eq hH.symm
  have HRL : Hid (m' ≤ H) := HRS.out.le
  clear HX2 hw1 hH
  obtain ⟨c0, c1, c2, c3, c4⟩ := five_cells RX.out
  go_wp2_with (refine wpList_load_row rfl 29 _ rfl N rfl 29 #[.slice A' n c', .int .u16 (p : Int), .int .u16 (t : Int), .int .u16 (d : Int), .int .u16 (r : Int)] (0, 0) _ RX.out Try.underlying29 rfl (by kernel_rfl) ?_)
  clear c0 c1 c2 c3 c4
  refine (HCN.out A' c' w3).mono ?_
  rintro e w4 ⟨rfl, hb4⟩
  have RX := Lib.hid (old_below RX.out hb4 (row_lt RX.out))
  have RY := Lib.hid (old_below RY.out hb4 (row_lt RY.out))
  have HRS := Lib.hid (HRS.out.stay (by have := HM.out; omega) (Stay.of hb4 HH.out))
  have HH := Lib.hid (Nat.le_trans HH.out hb4.size)
  have HBN := Lib.hid (HBN.out.trans (hb4.mono (by have := HBN.out.size; omega)))
  clear hb4

  by_cases q : D = 0
  · have hrd : r = d := by have := H1.out; omega
    subst hrd
    have HV : Hid (reapN n S r D = (S, r, [], 2)) := by show _ = _; unfold reapN; rw [if_pos q]
    obtain ⟨c0, c1, c2, c3, c4⟩ := five_cells RX.out
    go_upto_region 3 with (fail)
    clear c0 c1 c2 c3 c4
    have hmm := HM.out
    have RYE := Lib.hid (setRow_heap w4 (N + 1) _ #[.slice A' n c', .int .u16 (p : Int), .int .u16 (t : Int), .int .u16 (r : Int), .int .u16 (r : Int)] _ _ RY.out)
    have HRE := Lib.hid ((HRS.out.stay (by omega) (Stay.row w4 (g := N + 1) (by omega) #[.slice A' n c', .int .u16 (p : Int), .int .u16 (t : Int), .int .u16 (r : Int), .int .u16 (r : Int)])).wide (lo' := N) (by omega) (Nat.le_refl _))
    have HHE : Hid (H ≤ (w4.setRow (N + 1) #[.slice A' n c', .int .u16 (p : Int), .int .u16 (t : Int), .int .u16 (r : Int), .int .u16 (r : Int)]).heap.size) := by have := HH.out; show _ ≤ _; simpa [World.setRow] using this
    have HBE := Lib.hid (below_setRow HBN.out (by omega : N ≤ N + 1) #[.slice A' n c', .int .u16 (p : Int), .int .u16 (t : Int), .int .u16 (r : Int), .int .u16 (r : Int)])
    obtain ⟨c0, c1, c2, c3, c4⟩ := five_cells RX.out
    go_wp2_with (first | refine wpList_load_row rfl 29 _ rfl N rfl 29 #[.slice A' n c', .int .u16 (p : Int), .int .u16 (t : Int), .int .u16 (r : Int), .int .u16 (r : Int)] (0, 0) _ RX.out Try.underlying29 rfl (by kernel_rfl) ?_ | refine wpList_store_row rfl 29 _ _ rfl (N + 1) #[.slice A' n c', .int .u16 (p : Int), .int .u16 (t : Int), .int .u16 (r : Int), .int .u16 (r : Int)] rfl rfl 29 _ RY.out (by kernel_rfl) rfl (ring_ones _ _ _ _ _ _ _) ?_)
    refine ret_three (g := N + 1) rfl rfl RYE.out Try.underlying29 rfl (by kernel_rfl) rfl ?_
    rw [HV.out]
    exact ⟨_, _, _, _, _, rfl, HRE.out.wide (Nat.le_refl _) HHE.out, by omega, BV.nil, HBE.out⟩
  · have hrd : ¬ (r : Int) = (d : Int) := by have := H1.out; omega
    obtain ⟨i, hi⟩ : ∃ i, r % n = i := ⟨_, rfl⟩
    have hin : i < n := by rw [← hi]; exact mod_lt HN.out _
    obtain ⟨f, hf⟩ : ∃ f, S[i]? = some f := ⟨_, List.getElem?_eq_getElem (by rw [HSL.out]; exact hin)⟩
    have HFS : Hid (f.length ≤ 214) := HSM.out f (List.mem_of_getElem? hf)
    obtain ⟨g, c2', cur', e1, -⟩ := ownk_some HRS.out.own (by omega)
    injection e1 with e1 _ e3
    subst e1 e3
    obtain ⟨v, hv1, A1, c1, rfl, hrf, hA1⟩ := HRS.out.fr.2 i f hf
    have HROW := Lib.hid HRS.out.own
    have HV1 := Lib.hid hv1
    have HRF := Lib.hid hrf
    have HA1 := Lib.hid hA1
    have HHK := HH
    have HIN : Hid (i < n) := hin
    have HPL := Lib.hid (fun w => place_num n c' p t d r r (some ⟨g, 0, none⟩) w (by omega) (by omega))
    rw [hi] at HPL
    have hgl : N + 2 ≤ g ∧ g < m' := ⟨(HROW.out.lt g rfl).1, HRS.out.lt g rfl⟩
    clear hv1 hrf hA1 cur' 
    have HBV : Hid (BV m' H f w4 (.slice A1 f.length c1)) := ⟨A1, c1, rfl, HRF.out, HA1.out⟩
    have HV : Hid (reapN n S r D = (S.set i [], (r + 1) % 65536, f, 0)) := by show _ = _; unfold reapN; rw [if_neg q, hi, hf]; rfl
    obtain ⟨r', hr'⟩ : ∃ r', (r + 1) % 65536 = r' := ⟨_, rfl⟩
    have hwr := wrap_u16_succ r hr
    rw [hr'] at HV hwr
    clear hr' hi hf
    obtain ⟨c0, c1', c2, c3, c4⟩ := five_cells RX.out
    go_upto_region 4 with (fail)
    go_wp2_with (refine wpList_load_row rfl 29 _ rfl N rfl 29 #[.slice (some ⟨g, 0, none⟩) n c', .int .u16 (p : Int), .int .u16 (t : Int), .int .u16 (d : Int), .int .u16 (r : Int)] (0, 0) _ RX.out Try.underlying29 rfl (by kernel_rfl) ?_)
    clear c0 c1' c2 c3 c4
    refine (HPL.out w4).mono ?_
    rintro e wk ⟨rfl, hbk⟩
    have HROK := Lib.hid (ownk_below HROW.out hbk (Nat.le_refl _))
    have HBVK := Lib.hid (HBV.out.stay (Stay.of hbk HH.out))
    clear HROW HBV HRF HA1 HPL
    have RX := Lib.hid (old_below RX.out hbk (row_lt RX.out))
    have RY := Lib.hid (old_below RY.out hbk (row_lt RY.out))
    have HRS := Lib.hid (HRS.out.stay (by have := HM.out; omega) (Stay.of hbk HH.out))
    have HH := Lib.hid (Nat.le_trans HH.out hbk.size)
    have HBN := Lib.hid (HBN.out.trans (hbk.mono (by have := HBN.out.size; omega)))
    clear hbk

    have hcell := own_cell HROK.out HV1.out
    obtain ⟨cur, hg4, -, hnc, -, hcs, -⟩ := own_at0 HROK.out (by omega)
    have hfz := frozen_of_row wk g i cur _ hg4
    obtain ⟨c0, c1', c2, c3, c4⟩ := five_cells RX.out
    go_upto_region 7 with (fail)
    clear c0 c1' c2 c3 c4 hcell hfz hg4 hcs
    have hmm := HM.out
    have RX5 : Hid ((wk.setCell ⟨g, i, none⟩ (.slice none 0 0)).heap[N]? = some (.cells #[.slice (some ⟨g, 0, none⟩) n c', .int .u16 (p : Int), .int .u16 (t : Int), .int .u16 (d : Int), .int .u16 (r : Int)] 29 (0, 0))) := (heap_setCell_other wk _ _ _ (by show N ≠ g; omega)).trans RX.out
    have RY5 : Hid ((wk.setCell ⟨g, i, none⟩ (.slice none 0 0)).heap[N + 1]? = some (.cells #[.slice none 0 0, .int .u16 0, .int .u16 0, .int .u16 0, .int .u16 0] 29 (0, 0))) := (heap_setCell_other wk _ _ _ (by show N + 1 ≠ g; omega)).trans RY.out
    have hst : Stay m' H wk (wk.setCell ⟨g, i, none⟩ (.slice none 0 0)) := Stay.cell wk (by show g < m' ∨ _; omega) _
    have HRS5 : Hid (RgS (N + 2) m' H n (S.set i []) (wk.setCell ⟨g, i, none⟩ (.slice none 0 0)) (some ⟨g, 0, none⟩) c' (vs'.set i (.slice none 0 0))) := ⟨own_put HROK.out HIN.out rfl, HRS.out.lt, HRS.out.le, (HRS.out.fr.stay hst).set i BV.nil⟩
    have HBN5 : Hid (Below N w (wk.setCell ⟨g, i, none⟩ (.slice none 0 0))) := HBN.out.setCell (by show N ≤ g; omega) _
    have HH5 : Hid (H ≤ (wk.setCell ⟨g, i, none⟩ (.slice none 0 0)).heap.size) := by have := HH.out; show _ ≤ _; simpa using this
    have HBV5 := Lib.hid (HBVK.out.stay hst)
    generalize wk.setCell ⟨g, i, none⟩ (.slice none 0 0) = w6 at RX5 RY5 HRS5 HBN5 HH5 HBV5 ⊢
    clear RX RY HRS HBN HH HBVK HROK hst hmm
    have RX := RX5
    have RY := RY5
    have HRS := HRS5
    have HBN := HBN5
    have HH := HH5
    clear RX5 RY5 HRS5 HBN5 HH5
    have HBV6 := Lib.hid (HBV5.out.stay (Stay.cell w6 (p := ⟨N, 4, none⟩) (by have := HM.out; show N < m' ∨ _; omega) (.int .u16 (r' : Int))))
    have hmm := HM.out
    have RX5 : Hid ((w6.setCell ⟨N, 4, none⟩ (.int .u16 (r' : Int))).heap[N]? = some (.cells #[.slice (some ⟨g, 0, none⟩) n c', .int .u16 (p : Int), .int .u16 (t : Int), .int .u16 (d : Int), .int .u16 (r' : Int)] 29 (0, 0))) := heap_setCell_same w6 N 4 _ _ (.int .u16 (r' : Int)) RX.out
    have RY5 : Hid ((w6.setCell ⟨N, 4, none⟩ (.int .u16 (r' : Int))).heap[N + 1]? = some (.cells #[.slice none 0 0, .int .u16 0, .int .u16 0, .int .u16 0, .int .u16 0] 29 (0, 0))) := (heap_setCell_other w6 _ _ _ (by show N + 1 ≠ N; omega)).trans RY.out
    have HRS5 := Lib.hid (HRS.out.stay (by omega) (Stay.cell w6 (p := ⟨N, 4, none⟩) (by show N < N + 2 ∨ _; omega) (.int .u16 (r' : Int))))
    have HH5 : Hid (H ≤ (w6.setCell ⟨N, 4, none⟩ (.int .u16 (r' : Int))).heap.size) := by have := HH.out; show _ ≤ _; simpa using this
    have HBN5 : Hid (Below N w (w6.setCell ⟨N, 4, none⟩ (.int .u16 (r' : Int)))) := HBN.out.setCell (Nat.le_refl _) _
    obtain ⟨c0, c1, c2, c3, c4⟩ := five_cells RX.out
    have fz := frozen_of_row w6 N 4 _ _ RX.out
    go_upto_region 8 with (fail)
    clear c0 c1 c2 c3 c4 fz hmm
    generalize w6.setCell ⟨N, 4, none⟩ (.int .u16 (r' : Int)) = w7 at RX5 RY5 HRS5 HBN5 HH5 HBV6 ⊢
    clear RX RY HRS HBN HH
    have RX := RX5
    have RY := RY5
    have HRS := HRS5
    have HBN := HBN5
    have HH := HH5
    clear RX5 RY5 HRS5 HBN5 HH5
    have hmm := HM.out
    have RYE := Lib.hid (setRow_heap w7 (N + 1) _ #[.slice (some ⟨g, 0, none⟩) n c', .int .u16 (p : Int), .int .u16 (t : Int), .int .u16 (d : Int), .int .u16 (r' : Int)] _ _ RY.out)
    have HRE := Lib.hid ((HRS.out.stay (by omega) (Stay.row w7 (g := N + 1) (by omega) #[.slice (some ⟨g, 0, none⟩) n c', .int .u16 (p : Int), .int .u16 (t : Int), .int .u16 (d : Int), .int .u16 (r' : Int)])).wide (lo' := N) (by omega) (Nat.le_refl _))
    have HHE : Hid (H ≤ (w7.setRow (N + 1) #[.slice (some ⟨g, 0, none⟩) n c', .int .u16 (p : Int), .int .u16 (t : Int), .int .u16 (d : Int), .int .u16 (r' : Int)]).heap.size) := by have := HH.out; show _ ≤ _; simpa [World.setRow] using this
    have HBE := Lib.hid (below_setRow HBN.out (by omega : N ≤ N + 1) #[.slice (some ⟨g, 0, none⟩) n c', .int .u16 (p : Int), .int .u16 (t : Int), .int .u16 (d : Int), .int .u16 (r' : Int)])
    obtain ⟨c0, c1, c2, c3, c4⟩ := five_cells RX.out
    go_wp2_with (first | refine wpList_load_row rfl 29 _ rfl N rfl 29 #[.slice (some ⟨g, 0, none⟩) n c', .int .u16 (p : Int), .int .u16 (t : Int), .int .u16 (d : Int), .int .u16 (r' : Int)] (0, 0) _ RX.out Try.underlying29 rfl (by kernel_rfl) ?_ | refine wpList_store_row rfl 29 _ _ rfl (N + 1) #[.slice (some ⟨g, 0, none⟩) n c', .int .u16 (p : Int), .int .u16 (t : Int), .int .u16 (d : Int), .int .u16 (r' : Int)] rfl rfl 29 _ RY.out (by kernel_rfl) rfl (ring_ones _ _ _ _ _ _ _) ?_)
    refine ret_three (g := N + 1) rfl rfl RYE.out Try.underlying29 rfl (by kernel_rfl) rfl ?_
    rw [HV.out]
    refine ⟨_, _, _, _, _, rfl, HRE.out.wide (Nat.le_refl _) HHE.out, by omega, ?_, HBE.out⟩
    exact (HBV6.out.stay (Stay.row w7 (by show N + 1 < m' ∨ _; omega) _)).wide (by omega) HHE.out
end Go.Proofs.Ytdbiledmokldjaa
