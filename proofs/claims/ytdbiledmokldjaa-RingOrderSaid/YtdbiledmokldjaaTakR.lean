/-
  ring.Take. Every right ring. No condition beyond that.
-/
import Derived.Test.YtdbiledmokldjaaFinR
namespace Go.Proofs.Ytdbiledmokldjaa
open Go.RowKit

def takeN (n : Nat) (S : List Fr) (t P : Nat) : Nat × Fr × Nat := if P = 0 then (t, [], 2) else ((t + 1) % 65536, S[t % n]?.getD [], 0)
set_option maxRecDepth 100000 in
set_option maxHeartbeats 4000000 in
theorem take_num (n c p t d r D T P lo m hi : Nat) (A : Option Addr) (S : List Fr) (vs : List Value) (w : World) (hs : RgS lo m hi n S w A c vs) (hn : MayN n) (hS : S.length = n) (hsm : ∀ f ∈ S, f.length ≤ 214) (hhi : hi ≤ w.heap.size) (hp : p < 65536) (ht : t < 65536) (hd : d < 65536) (hr : r < 65536) (h1 : d = (r + D) % 65536) (h2 : t = (r + (D + T)) % 65536) (h3 : p = (r + (D + T + P)) % 65536) (hle : D + T + P ≤ n) :
    Calls Try.prog 16 #[.agg #[.slice A n c, .int .u16 (p : Int), .int .u16 (t : Int), .int .u16 (d : Int), .int .u16 (r : Int)]] w fun e w' => ∃ A' c' vs' m' H u, e = .returned (.tuple #[.agg #[.slice A' n c', .int .u16 (p : Int), .int .u16 ((takeN n S t P).1 : Int), .int .u16 (d : Int), .int .u16 (r : Int)], u, .int .i64 ((takeN n S t P).2.2 : Int)]) ∧ RgS w.heap.size m' H n S w' A' c' vs' ∧ w.heap.size ≤ m' ∧ H ≤ w'.heap.size ∧ w'.ownsRow H 5 1 u (takeN n S t P).2.1.length (cells (takeN n S t P).2.1) ∧ Below w.heap.size w w' := by
  have hpos := hn.pos
  obtain ⟨hp1, hp2⟩ := hpos
  obtain ⟨N, hN⟩ : ∃ N, w.heap.size = N := ⟨_, rfl⟩
  obtain ⟨w1, hw1⟩ : ∃ w1, (w.alloc (.cells #[.slice A n c, .int .u16 (p : Int), .int .u16 (t : Int), .int .u16 (d : Int), .int .u16 (r : Int)] 29)).alloc (.cells #[.slice none 0 0, .int .u16 0, .int .u16 0, .int .u16 0, .int .u16 0] 29) = w1 := ⟨_, rfl⟩
  have HB1 : Hid (Below N w w1) := by rw [← hw1]; exact ((Below.refl _ _).alloc (by omega) _).alloc (by simp; omega) _
  have HZ1 : Hid (w1.heap.size = N + 2) := by rw [← hw1]; show _ = _; simp [hN]
  have RX1 : Hid (w1.heap[N]? = some (.cells #[.slice A n c, .int .u16 (p : Int), .int .u16 (t : Int), .int .u16 (d : Int), .int .u16 (r : Int)] 29 (0, 0))) := by rw [← hw1, ← hN]; exact old_alloc (heap_alloc_new w _) _
  have RY1 : Hid (w1.heap[N + 1]? = some (.cells #[.slice none 0 0, .int .u16 0, .int .u16 0, .int .u16 0, .int .u16 0] 29 (0, 0))) := by rw [← hw1, ← hN]; exact new_at1 w _ _
  have hs1 : RgS 0 m hi n S w1 A c vs := (hs.wide (Nat.zero_le _) (Nat.le_refl _)).stay (Nat.zero_le _) (Stay.of HB1.out (by omega))
  have HCL := Lib.hid (clone_num n c p t d r 0 m hi A S vs w1 hs1 hn hS hsm (Nat.le_trans hhi HB1.out.size))
  have HCN : Hid (∀ (A : Option Addr) (c : Nat) (w : World), Calls Try.prog 26 #[.agg #[.slice A n c, .int .u16 (p : Int), .int .u16 (t : Int), .int .u16 (d : Int), .int .u16 (r : Int)]] w fun e w' => e = .returned (.bool true) ∧ Below w.heap.size w w') := fun A c w => counts_num n c p t d r D T P A w hn hp ht hd hr h1 h2 h3 hle
  have HN := Lib.hid hn
  have HSL := Lib.hid hS
  have HSM := Lib.hid hsm
  have H3 := Lib.hid h3
  have H2 := Lib.hid h2
  have H1 := Lib.hid h1
  rw [hN]
  obtain ⟨c0, c1, c2, c3, c4⟩ := five_cells RX1.out
  clear hs hs1 hn hS hsm h1 h2 h3
  go_enter Try.func16, Try.ntmps16
  go_wp2_with fail
  clear c0 c1 c2 c3 c4
  refine HCL.out.mono ?_
  rintro e w2 ⟨A', c', vs', m', rfl, hs2, hm2, hb2⟩
  have hz1 := HZ1.out
  have hx2 := old_below RX1.out hb2 (by omega)
  have hy2 := old_below RY1.out hb2 (by omega)
  have HX2 := Lib.hid hx2
  have RX : Hid ((w2.setRow N #[.slice A' n c', .int .u16 (p : Int), .int .u16 (t : Int), .int .u16 (d : Int), .int .u16 (r : Int)]).heap[N]? = some (.cells #[.slice A' n c', .int .u16 (p : Int), .int .u16 (t : Int), .int .u16 (d : Int), .int .u16 (r : Int)] 29 (0, 0))) := setRow_heap _ _ _ _ _ _ hx2
  have RY : Hid ((w2.setRow N #[.slice A' n c', .int .u16 (p : Int), .int .u16 (t : Int), .int .u16 (d : Int), .int .u16 (r : Int)]).heap[N + 1]? = some (.cells #[.slice none 0 0, .int .u16 0, .int .u16 0, .int .u16 0, .int .u16 0] 29 (0, 0))) := (setRow_other _ _ _ _ (by omega)).trans hy2
  have HRS : Hid (RgS (N + 2) m' (w2.setRow N #[.slice A' n c', .int .u16 (p : Int), .int .u16 (t : Int), .int .u16 (d : Int), .int .u16 (r : Int)]).heap.size n S (w2.setRow N #[.slice A' n c', .int .u16 (p : Int), .int .u16 (t : Int), .int .u16 (d : Int), .int .u16 (r : Int)]) A' c' vs') := by
    rw [hz1] at hs2 hm2
    exact (hs2.stay hm2 (Stay.row w2 (by omega) _)).wide (Nat.le_refl _) (by simp [World.setRow])
  have HM : Hid (N + 2 ≤ m') := by show _ ≤ _; omega
  have HBN : Hid (Below N w (w2.setRow N #[.slice A' n c', .int .u16 (p : Int), .int .u16 (t : Int), .int .u16 (d : Int), .int .u16 (r : Int)])) := below_setRow (HB1.out.trans (hb2.mono (by omega))) (Nat.le_refl _) _
  clear hs2 hm2 hb2 hx2 hy2 hz1 HZ1 HB1 RX1 RY1 HCL
  go_upto_region 2 with (refine wpList_store_row rfl 29 _ _ rfl N #[.slice A' n c', .int .u16 (p : Int), .int .u16 (t : Int), .int .u16 (d : Int), .int .u16 (r : Int)] rfl rfl 29 _ HX2.out (by kernel_rfl) rfl (ring_ones _ _ _ _ _ _ _) ?_)
  generalize w2.setRow N #[.slice A' n c', .int .u16 (p : Int), .int .u16 (t : Int), .int .u16 (d : Int), .int .u16 (r : Int)] = w3 at RX RY HRS HBN ⊢
  obtain ⟨H, hH⟩ : ∃ H, w3.heap.size = H := ⟨_, rfl⟩
  rw [hH] at HRS
  have HH : Hid (H ≤ w3.heap.size) := Nat.le_of_eq hH.symm
  have HRL : Hid (m' ≤ H) := HRS.out.le
  clear HX2 hw1 hH
  obtain ⟨c0, c1, c2, c3, c4⟩ := five_cells RX.out
  go_wp2_with (refine wpList_load_row rfl 29 _ rfl N rfl 29 #[.slice A' n c', .int .u16 (p : Int), .int .u16 (t : Int), .int .u16 (d : Int), .int .u16 (r : Int)] (0, 0) _ RX.out Try.underlying29 rfl (by kernel_rfl) ?_)
  clear c0 c1 c2 c3 c4
  refine (HCN.out A' c' w3).mono ?_
  rintro e w4 ⟨rfl, hb4⟩
  have RX := Lib.hid (old_below RX.out hb4 (row_lt RX.out))
  have RY := Lib.hid (old_below RY.out hb4 (row_lt RY.out))
  have HRS := Lib.hid (HRS.out.stay (by have := HM.out; omega) (Stay.of hb4 HH.out))
  have HH := Lib.hid (Nat.le_trans HH.out hb4.size)
  have HBN := Lib.hid (HBN.out.trans (hb4.mono (by have := HBN.out.size; omega)))
  clear hb4

  by_cases q : P = 0
  · have htp : t = p := by have := H3.out; have := H2.out; omega
    subst htp
    have HV : Hid (takeN n S t P = (t, [], 2)) := by show _ = _; unfold takeN; rw [if_pos q]
    obtain ⟨c0, c1, c2, c3, c4⟩ := five_cells RX.out
    go_upto_region 3 with (fail)
    clear c0 c1 c2 c3 c4
    have hmm := HM.out
    have RYE := Lib.hid (setRow_heap w4 (N + 1) _ #[.slice A' n c', .int .u16 (t : Int), .int .u16 (t : Int), .int .u16 (d : Int), .int .u16 (r : Int)] _ _ RY.out)
    have HRE := Lib.hid ((HRS.out.stay (by omega) (Stay.row w4 (g := N + 1) (by omega) #[.slice A' n c', .int .u16 (t : Int), .int .u16 (t : Int), .int .u16 (d : Int), .int .u16 (r : Int)])).wide (lo' := N) (by omega) (Nat.le_refl _))
    have HHE : Hid (H ≤ (w4.setRow (N + 1) #[.slice A' n c', .int .u16 (t : Int), .int .u16 (t : Int), .int .u16 (d : Int), .int .u16 (r : Int)]).heap.size) := by have := HH.out; show _ ≤ _; simpa [World.setRow] using this
    have HBE := Lib.hid (below_setRow HBN.out (by omega : N ≤ N + 1) #[.slice A' n c', .int .u16 (t : Int), .int .u16 (t : Int), .int .u16 (d : Int), .int .u16 (r : Int)])
    obtain ⟨c0, c1, c2, c3, c4⟩ := five_cells RX.out
    go_wp2_with (first | refine wpList_load_row rfl 29 _ rfl N rfl 29 #[.slice A' n c', .int .u16 (t : Int), .int .u16 (t : Int), .int .u16 (d : Int), .int .u16 (r : Int)] (0, 0) _ RX.out Try.underlying29 rfl (by kernel_rfl) ?_ | refine wpList_store_row rfl 29 _ _ rfl (N + 1) #[.slice A' n c', .int .u16 (t : Int), .int .u16 (t : Int), .int .u16 (d : Int), .int .u16 (r : Int)] rfl rfl 29 _ RY.out (by kernel_rfl) rfl (ring_ones _ _ _ _ _ _ _) ?_)
    refine ret_three (g := N + 1) rfl rfl RYE.out Try.underlying29 rfl (by kernel_rfl) rfl ?_
    rw [HV.out]
    exact ⟨_, _, _, _, _, _, rfl, HRE.out, by omega, HHE.out, World.ownsRow_nil _ _ _ _, HBE.out⟩
  · have htp : ¬ (t : Int) = (p : Int) := by have := H3.out; have := H2.out; omega
    obtain ⟨i, hi⟩ : ∃ i, t % n = i := ⟨_, rfl⟩
    have hin : i < n := by rw [← hi]; exact mod_lt HN.out _
    obtain ⟨f, hf⟩ : ∃ f, S[i]? = some f := ⟨_, List.getElem?_eq_getElem (by rw [HSL.out]; exact hin)⟩
    have HFS : Hid (f.length ≤ 214) := HSM.out f (List.mem_of_getElem? hf)
    obtain ⟨g, c2', cur', e1, -⟩ := ownk_some HRS.out.own (by omega)
    injection e1 with e1 _ e3
    subst e1 e3
    obtain ⟨v, hv1, A1, c1, rfl, hrf, hA1⟩ := HRS.out.fr.2 i f hf
    have HROW := Lib.hid HRS.out.own
    have HV1 := Lib.hid hv1
    have HRF := Lib.hid hrf
    have HA1 := Lib.hid hA1
    have HHK := HH
    have HIN : Hid (i < n) := hin
    have HPL := Lib.hid (fun w => place_num n c' p t d r t (some ⟨g, 0, none⟩) w (by omega) (by omega))
    rw [hi] at HPL
    have hgl : N + 2 ≤ g ∧ g < m' := ⟨(HROW.out.lt g rfl).1, HRS.out.lt g rfl⟩
    clear hv1 hrf hA1 cur' 
    have HV : Hid (takeN n S t P = ((t + 1) % 65536, f, 0)) := by show _ = _; unfold takeN; rw [if_neg q, hi, hf]; rfl
    obtain ⟨t', ht'⟩ : ∃ t', (t + 1) % 65536 = t' := ⟨_, rfl⟩
    have hwr := wrap_u16_succ t ht
    rw [ht'] at HV hwr
    clear ht' hi hf hin
    generalize w4 = wk at *
    obtain ⟨c0, c1, c2, c3, c4⟩ := five_cells RX.out
    go_upto_region 4 with (fail)
    clear c0 c1 c2 c3 c4
    apply wp_region_relyG [] (fun _ w' => Below wk.heap.size wk w') (RL [Is _, Is _, Is (.agg #[.slice (some ⟨g, 0, none⟩) n c', .int .u16 (p : Int), .int .u16 (t : Int), .int .u16 (d : Int), .int .u16 (r : Int)]), Is _, Is _, Is (.int .i64 ((i : Nat) : Int)), Is (.pointer (some ((⟨g, 0, none⟩ : Addr).add (i * 1)))), Is (.slice A1 f.length c1), OwnR wk.heap.size 5 1 f.length (cells f), OwnR wk.heap.size 5 1 f.length (cells f)]) [false, false, false, false, false, true, false, false, false, false, false, false, false, false, false, false, false, false, false, true, true, true, true, true, true, true, true, true, false, false, false, false, false, false]
    · kernel_rfl
    · kernel_rfl
    · kernel_rfl
    · refine ⟨?_, ?_, ?_, ?_, ?_, ?_, ?_, ?_, ?_, ?_, trivial⟩
      · intro L ev w' hC hL hx K hK
        have e1 : ev (.tmp 1) = _ := hx.base 1 (by kernel_rfl)
        have HK := Lib.hid hK
        have HC := Lib.hid hC
        have HL := Lib.hid hL
        have HX := Lib.hid hx
        have hc := hx.cst
        skip
        clear hx hK hC hL
        unfold Run
        simp [execOp, Upon, go_sem, *]
        exact HK.out _ _ (.inl ⟨Below.refl _ _, by decide⟩) rfl
      · intro L ev w' hC hL hx K hK
        have e19 := hx.held 0 _ rfl (by kernel_rfl)
        change ev (.tmp 19) = _ at e19
        have HK := Lib.hid hK
        have HC := Lib.hid hC
        have HL := Lib.hid hL
        have HX := Lib.hid hx
        have hc := hx.cst
        skip
        clear hx hK hC hL
        obtain ⟨c0, c1, c2, c3, c4⟩ := five_cells (old_below RX.out HC.out (row_lt RX.out))
        unfold Run
        simp [execOp, Upon, go_sem, *]
        exact HK.out _ _ (.inl ⟨Below.refl _ _, by decide⟩) rfl
      · intro L ev w' hC hL hx K hK
        have e1 : ev (.tmp 1) = _ := hx.base 1 (by kernel_rfl)
        have HK := Lib.hid hK
        have HC := Lib.hid hC
        have HL := Lib.hid hL
        have HX := Lib.hid hx
        have hc := hx.cst
        skip
        clear hx hK hC hL
        have q1 : ev (.tmp 1) = .pointer (some ⟨N, 0, none⟩) := e1
        have hld := run_loadVar_row (P := Try.prog) w' N 29 29 #[.slice (some ⟨g, 0, none⟩) n c', .int .u16 (p : Int), .int .u16 (t : Int), .int .u16 (d : Int), .int .u16 (r : Int)] (0, 0) _ (old_below RX.out HC.out (row_lt RX.out)) Try.underlying29 rfl (by kernel_rfl)
        unfold Run
        rw [run_loadE 29 _ rfl q1 hld]
        exact HK.out _ _ (.inl ⟨Below.refl _ _, by decide⟩) rfl
      · intro L ev w' hC hL hx K hK
        have e1 : ev (.tmp 1) = _ := hx.base 1 (by kernel_rfl)
        have HK := Lib.hid hK
        have HC := Lib.hid hC
        have HL := Lib.hid hL
        have HX := Lib.hid hx
        have hc := hx.cst
        skip
        clear hx hK hC hL
        unfold Run
        simp [execOp, Upon, go_sem, *]
        exact HK.out _ _ (.inl ⟨Below.refl _ _, by decide⟩) rfl
      · intro L ev w' hC hL hx K hK
        have e22 := hx.held 3 _ rfl (by kernel_rfl)
        change ev (.tmp 22) = _ at e22
        have HK := Lib.hid hK
        have HC := Lib.hid hC
        have HL := Lib.hid hL
        have HX := Lib.hid hx
        have hc := hx.cst
        skip
        clear hx hK hC hL
        obtain ⟨c0, c1, c2, c3, c4⟩ := five_cells (old_below RX.out HC.out (row_lt RX.out))
        unfold Run
        simp [execOp, Upon, go_sem, *]
        exact HK.out _ _ (.inl ⟨Below.refl _ _, by decide⟩) rfl
      · intro L ev w' hC hL hx K hK
        have e21 := hx.held 2 _ rfl (by kernel_rfl)
        have e23 := hx.held 4 _ rfl (by kernel_rfl)
        change ev (.tmp 21) = _ at e21
        change ev (.tmp 23) = _ at e23
        have HK := Lib.hid hK
        have HC := Lib.hid hC
        have HL := Lib.hid hL
        have HX := Lib.hid hx
        have hc := hx.cst
        have hf := hx.fn
        clear hx hK hC hL
        unfold Run
        simp [execOp, Upon, go_sem, *]
        refine (HPL.out w').mono ?_
        rintro e w9 ⟨rfl, hb9⟩
        exact ⟨_, rfl, HK.out _ _ (.inl ⟨hb9, by decide⟩) rfl⟩
      · intro L ev w' hC hL hx K hK
        have e20 := hx.held 1 _ rfl (by kernel_rfl)
        have e24 := hx.held 5 _ rfl (by kernel_rfl)
        change ev (.tmp 20) = _ at e20
        change ev (.tmp 24) = _ at e24
        have HK := Lib.hid hK
        have HC := Lib.hid hC
        have HL := Lib.hid hL
        have HX := Lib.hid hx
        have hc := hx.cst
        skip
        clear hx hK hC hL
        unfold Run
        rw [run_indexE 27 _ _ rfl Try.underlying27 (size := 1) (by kernel_rfl) e20 e24 HIN.out]
        exact HK.out _ _ (.inl ⟨Below.refl _ _, by decide⟩) rfl
      · intro L ev w' hC hL hx K hK
        have e25 := hx.held 6 _ rfl (by kernel_rfl)
        change ev (.tmp 25) = _ at e25
        have HK := Lib.hid hK
        have HC := Lib.hid hC
        have HL := Lib.hid hL
        have HX := Lib.hid hx
        have hc := hx.cst
        skip
        clear hx hK hC hL
        have hcell := own_cell (ownk_below HROW.out HC.out (Nat.le_refl _)) HV1.out
        have q1 : ev (.tmp 25) = .pointer (some ⟨g, i, none⟩) := by rw [e25, Addr.add_mid]; simp
        unfold Run
        simp [execOp, Upon, go_sem, *]
        exact HK.out _ _ (.inl ⟨Below.refl _ _, by decide⟩) rfl
      · intro L ev w' hC hL hx K hK
        have e26 := hx.held 7 _ rfl (by kernel_rfl)
        change ev (.tmp 26) = _ at e26
        have HK := Lib.hid hK
        have HC := Lib.hid hC
        have HL := Lib.hid hL
        have HX := Lib.hid hx
        have hc := hx.cst
        have hf := hx.fn
        clear hx hK hC hL
        unfold Run
        simp [execOp, Upon, go_sem, *]
        refine (cloneb_any A1 (cells f) f.length c1 m' H w' (HRF.out.below HC.out HHK.out) (by have := HC.out.size; have := HHK.out; omega) (by rw [cells_length, Nat.mul_one]) (cells_one f) HA1.out (by have := HFS.out; omega)).mono ?_
        rintro e w9 ⟨u9, rfl, ho9, hb9⟩
        exact ⟨_, rfl, HK.out _ _ (.inl ⟨hb9, by decide⟩) (ownk_base ho9 HC.out.size)⟩
      · intro L ev w' hC hL hx K hK
        have e27 := hx.held 8 _ rfl (by kernel_rfl)
        change (OwnR wk.heap.size 5 1 f.length (cells f) : Pred) (ev (.tmp 27)) w' at e27
        have HK := Lib.hid hK
        have HC := Lib.hid hC
        have HL := Lib.hid hL
        have HX := Lib.hid hx
        have hc := hx.cst
        skip
        clear hx hK hC hL
        have E27 := Lib.hid e27
        clear e27
        unfold Run
        simp [execOp, Upon, go_sem, *]
        exact HK.out _ _ (.inl ⟨Below.refl _ _, by decide⟩) E27.out
    · exact rl_mono ⟨is_mono _, is_mono _, is_mono _, is_mono _, is_mono _, is_mono _, is_mono _, is_mono _, ownr_mono _ _ _ _ _, ownr_mono _ _ _ _ _, trivial⟩
    · exact fun _ _ _ _ h => h
    · exact fun _ _ _ hb h => h.trans (hb.mono h.size)
    · exact Below.refl _ _
    · simp
    intro us wr hG hH
    obtain ⟨-, -, -, -, -, -, -, -, -, h9, -⟩ := hH
    simp only [fillM]
    change (OwnR wk.heap.size 5 1 f.length (cells f) : Pred) (us 5) wr at h9
    generalize us 19 = v19
    generalize us 20 = v20
    generalize us 21 = v21
    generalize us 22 = v22
    generalize us 23 = v23
    generalize us 24 = v24
    generalize us 25 = v25
    generalize us 26 = v26
    generalize us 27 = v27
    generalize us 5 = v5 at h9 ⊢
    have HRO := Lib.hid h9
    have HKZ : Hid (N + 2 ≤ wk.heap.size) := by show _ ≤ _; have := row_lt RY.out; omega
    have HHZ : Hid (H ≤ wk.heap.size) := HH.out
    have hbg := hG
    clear h9 hG HROW HV1 HRF HA1 HHK HPL
    have RX := Lib.hid (old_below RX.out hbg (row_lt RX.out))
    have RY := Lib.hid (old_below RY.out hbg (row_lt RY.out))
    have HRS := Lib.hid (HRS.out.stay (by have := HM.out; omega) (Stay.of hbg HH.out))
    have HH := Lib.hid (Nat.le_trans HH.out hbg.size)
    have HBN := Lib.hid (HBN.out.trans (hbg.mono (by have := HBN.out.size; omega)))
    clear hbg

    have HRO5 := Lib.hid (ownk_setCell_other HRO.out (p := ⟨N, 2, none⟩) (fun b hb => by have := (HRO.out.lt b hb).1; have := HKZ.out; show b ≠ N; omega) (.int .u16 (t' : Int)))
    have hmm := HM.out
    have RX5 : Hid ((wr.setCell ⟨N, 2, none⟩ (.int .u16 (t' : Int))).heap[N]? = some (.cells #[.slice (some ⟨g, 0, none⟩) n c', .int .u16 (p : Int), .int .u16 (t' : Int), .int .u16 (d : Int), .int .u16 (r : Int)] 29 (0, 0))) := heap_setCell_same wr N 2 _ _ (.int .u16 (t' : Int)) RX.out
    have RY5 : Hid ((wr.setCell ⟨N, 2, none⟩ (.int .u16 (t' : Int))).heap[N + 1]? = some (.cells #[.slice none 0 0, .int .u16 0, .int .u16 0, .int .u16 0, .int .u16 0] 29 (0, 0))) := (heap_setCell_other wr _ _ _ (by show N + 1 ≠ N; omega)).trans RY.out
    have HRS5 := Lib.hid (HRS.out.stay (by omega) (Stay.cell wr (p := ⟨N, 2, none⟩) (by show N < N + 2 ∨ _; omega) (.int .u16 (t' : Int))))
    have HH5 : Hid (H ≤ (wr.setCell ⟨N, 2, none⟩ (.int .u16 (t' : Int))).heap.size) := by have := HH.out; show _ ≤ _; simpa using this
    have HBN5 : Hid (Below N w (wr.setCell ⟨N, 2, none⟩ (.int .u16 (t' : Int)))) := HBN.out.setCell (Nat.le_refl _) _
    obtain ⟨c0, c1, c2, c3, c4⟩ := five_cells RX.out
    have fz := frozen_of_row wr N 2 _ _ RX.out
    go_upto_region 6 with (fail)
    clear c0 c1 c2 c3 c4 fz hmm
    generalize wr.setCell ⟨N, 2, none⟩ (.int .u16 (t' : Int)) = w5 at RX5 RY5 HRS5 HBN5 HH5 HRO5 ⊢
    clear RX RY HRS HBN HH
    have RX := RX5
    have RY := RY5
    have HRS := HRS5
    have HBN := HBN5
    have HH := HH5
    clear RX5 RY5 HRS5 HBN5 HH5
    have hmm := HM.out
    have RYE := Lib.hid (setRow_heap w5 (N + 1) _ #[.slice (some ⟨g, 0, none⟩) n c', .int .u16 (p : Int), .int .u16 (t' : Int), .int .u16 (d : Int), .int .u16 (r : Int)] _ _ RY.out)
    have HRE := Lib.hid ((HRS.out.stay (by omega) (Stay.row w5 (g := N + 1) (by omega) #[.slice (some ⟨g, 0, none⟩) n c', .int .u16 (p : Int), .int .u16 (t' : Int), .int .u16 (d : Int), .int .u16 (r : Int)])).wide (lo' := N) (by omega) (Nat.le_refl _))
    have HHE : Hid (H ≤ (w5.setRow (N + 1) #[.slice (some ⟨g, 0, none⟩) n c', .int .u16 (p : Int), .int .u16 (t' : Int), .int .u16 (d : Int), .int .u16 (r : Int)]).heap.size) := by have := HH.out; show _ ≤ _; simpa [World.setRow] using this
    have HBE := Lib.hid (below_setRow HBN.out (by omega : N ≤ N + 1) #[.slice (some ⟨g, 0, none⟩) n c', .int .u16 (p : Int), .int .u16 (t' : Int), .int .u16 (d : Int), .int .u16 (r : Int)])
    obtain ⟨c0, c1, c2, c3, c4⟩ := five_cells RX.out
    go_wp2_with (first | refine wpList_load_row rfl 29 _ rfl N rfl 29 #[.slice (some ⟨g, 0, none⟩) n c', .int .u16 (p : Int), .int .u16 (t' : Int), .int .u16 (d : Int), .int .u16 (r : Int)] (0, 0) _ RX.out Try.underlying29 rfl (by kernel_rfl) ?_ | refine wpList_store_row rfl 29 _ _ rfl (N + 1) #[.slice (some ⟨g, 0, none⟩) n c', .int .u16 (p : Int), .int .u16 (t' : Int), .int .u16 (d : Int), .int .u16 (r : Int)] rfl rfl 29 _ RY.out (by kernel_rfl) rfl (ring_ones _ _ _ _ _ _ _) ?_)
    refine ret_three (g := N + 1) rfl rfl RYE.out Try.underlying29 rfl (by kernel_rfl) rfl ?_
    rw [HV.out]
    exact ⟨_, _, _, _, _, _, rfl, HRE.out, by omega, HHE.out, ownk_base (ownk_other HRO5.out RY.out (by decide) (setRow_cells _ _ _)) HHZ.out, HBE.out⟩
end Go.Proofs.Ytdbiledmokldjaa
