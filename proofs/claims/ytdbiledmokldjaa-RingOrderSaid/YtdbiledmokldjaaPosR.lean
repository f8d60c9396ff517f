/-
  ring.Post. Every right ring, every frame that can be read, of at most 100000 bytes. No condition beyond that.
-/
import Derived.Test.YtdbiledmokldjaaReaR
namespace Go.Proofs.Ytdbiledmokldjaa
open Go.RowKit

def postN (n : Nat) (S : List Fr) (p L : Nat) (f : Fr) : List Fr × Nat × Nat := if 214 < f.length then (S, p, 4) else if L = n then (S, p, 5) else (S.set (p % n) f, (p + 1) % 65536, 0)
set_option maxRecDepth 100000 in
set_option maxHeartbeats 4000000 in
theorem post_num (n c p t d r D T P lo m hi : Nat) (A : Option Addr) (S : List Fr) (vs : List Value) (AF : Option Addr) (cF loF hiF : Nat) (f : Fr) (w : World) (hs : RgS lo m hi n S w A c vs) (hn : MayN n) (hS : S.length = n) (hsm : ∀ f ∈ S, f.length ≤ 214) (hhi : hi ≤ w.heap.size) (hp : p < 65536) (ht : t < 65536) (hd : d < 65536) (hr : r < 65536) (h1 : d = (r + D) % 65536) (h2 : t = (r + (D + T)) % 65536) (h3 : p = (r + (D + T + P)) % 65536) (hle : D + T + P ≤ n) (hrf : Rd w loF hiF AF (cells f)) (hhf : hiF ≤ w.heap.size) (haf : AF = none → cF = 0) (hfl : f.length ≤ 100000) :
    Calls Try.prog 15 #[.agg #[.slice A n c, .int .u16 (p : Int), .int .u16 (t : Int), .int .u16 (d : Int), .int .u16 (r : Int)], .slice AF f.length cF] w fun e w' => ∃ A' c' vs' m', e = .returned (.tuple #[.agg #[.slice A' n c', .int .u16 ((postN n S p (D + T + P) f).2.1 : Int), .int .u16 (t : Int), .int .u16 (d : Int), .int .u16 (r : Int)], .int .i64 ((postN n S p (D + T + P) f).2.2 : Int)]) ∧ RgS w.heap.size m' w'.heap.size n (postN n S p (D + T + P) f).1 w' A' c' vs' ∧ w.heap.size ≤ m' ∧ Below w.heap.size w w' := by
  obtain ⟨L, hL⟩ : ∃ L, D + T + P = L := ⟨_, rfl⟩
  rw [hL]
  have HRF := Lib.hid hrf
  have HHF0 := Lib.hid hhf
  have HAF := Lib.hid haf
  have HFL := Lib.hid hfl
  have HLN : Hid (∀ (A : Option Addr) (c : Nat) (w : World), Calls Try.prog 12 #[.agg #[.slice A n c, .int .u16 (p : Int), .int .u16 (t : Int), .int .u16 (d : Int), .int .u16 (r : Int)]] w fun e w' => e = .returned (.int .i64 (L : Int)) ∧ Below w.heap.size w w') := fun A c w => len_num n c p t d r L A w hp hr (by have := hn.pos; omega) (by rw [← hL]; exact h3)
  clear hrf hhf haf
  have hpos := hn.pos
  obtain ⟨hp1, hp2⟩ := hpos
  obtain ⟨N, hN⟩ : ∃ N, w.heap.size = N := ⟨_, rfl⟩
  obtain ⟨w1, hw1⟩ : ∃ w1, (w.alloc (.cells #[.slice A n c, .int .u16 (p : Int), .int .u16 (t : Int), .int .u16 (d : Int), .int .u16 (r : Int)] 29)).alloc (.cells #[.slice none 0 0, .int .u16 0, .int .u16 0, .int .u16 0, .int .u16 0] 29) = w1 := ⟨_, rfl⟩
  have HB1 : Hid (Below N w w1) := by rw [← hw1]; exact ((Below.refl _ _).alloc (by omega) _).alloc (by simp; omega) _
  have HZ1 : Hid (w1.heap.size = N + 2) := by rw [← hw1]; show _ = _; simp [hN]
  have RX1 : Hid (w1.heap[N]? = some (.cells #[.slice A n c, .int .u16 (p : Int), .int .u16 (t : Int), .int .u16 (d : Int), .int .u16 (r : Int)] 29 (0, 0))) := by rw [← hw1, ← hN]; exact old_alloc (heap_alloc_new w _) _
  have RY1 : Hid (w1.heap[N + 1]? = some (.cells #[.slice none 0 0, .int .u16 0, .int .u16 0, .int .u16 0, .int .u16 0] 29 (0, 0))) := by rw [← hw1, ← hN]; exact new_at1 w _ _
  have hs1 : RgS 0 m hi n S w1 A c vs := (hs.wide (Nat.zero_le _) (Nat.le_refl _)).stay (Nat.zero_le _) (Stay.of HB1.out (by omega))
  have HCL := Lib.hid (clone_num n c p t d r 0 m hi A S vs w1 hs1 hn hS hsm (Nat.le_trans hhi HB1.out.size))
  have HCN : Hid (∀ (A : Option Addr) (c : Nat) (w : World), Calls Try.prog 26 #[.agg #[.slice A n c, .int .u16 (p : Int), .int .u16 (t : Int), .int .u16 (d : Int), .int .u16 (r : Int)]] w fun e w' => e = .returned (.bool true) ∧ Below w.heap.size w w') := fun A c w => counts_num n c p t d r D T P A w hn hp ht hd hr h1 h2 h3 hle
  have HN := Lib.hid hn
  have HSL := Lib.hid hS
  have HSM := Lib.hid hsm
  have H3 := Lib.hid h3
  have H2 := Lib.hid h2
  have H1 := Lib.hid h1
  rw [hN]
  obtain ⟨c0, c1, c2, c3, c4⟩ := five_cells RX1.out
  clear hs hs1 hn hS hsm h1 h2 h3
  go_enter Try.func15, Try.ntmps15
  go_wp2_with fail
  clear c0 c1 c2 c3 c4
  refine HCL.out.mono ?_
  rintro e w2 ⟨A', c', vs', m', rfl, hs2, hm2, hb2⟩
  have hz1 := HZ1.out
  have hx2 := old_below RX1.out hb2 (by omega)
  have hy2 := old_below RY1.out hb2 (by omega)
  have HX2 := Lib.hid hx2
  have RX : Hid ((w2.setRow N #[.slice A' n c', .int .u16 (p : Int), .int .u16 (t : Int), .int .u16 (d : Int), .int .u16 (r : Int)]).heap[N]? = some (.cells #[.slice A' n c', .int .u16 (p : Int), .int .u16 (t : Int), .int .u16 (d : Int), .int .u16 (r : Int)] 29 (0, 0))) := setRow_heap _ _ _ _ _ _ hx2
  have RY : Hid ((w2.setRow N #[.slice A' n c', .int .u16 (p : Int), .int .u16 (t : Int), .int .u16 (d : Int), .int .u16 (r : Int)]).heap[N + 1]? = some (.cells #[.slice none 0 0, .int .u16 0, .int .u16 0, .int .u16 0, .int .u16 0] 29 (0, 0))) := (setRow_other _ _ _ _ (by omega)).trans hy2
  have HRS : Hid (RgS (N + 2) m' (w2.setRow N #[.slice A' n c', .int .u16 (p : Int), .int .u16 (t : Int), .int .u16 (d : Int), .int .u16 (r : Int)]).heap.size n S (w2.setRow N #[.slice A' n c', .int .u16 (p : Int), .int .u16 (t : Int), .int .u16 (d : Int), .int .u16 (r : Int)]) A' c' vs') := by
    rw [hz1] at hs2 hm2
    exact (hs2.stay hm2 (Stay.row w2 (by omega) _)).wide (Nat.le_refl _) (by simp [World.setRow])
  have HM : Hid (N + 2 ≤ m') := by show _ ≤ _; omega
  have HBN : Hid (Below N w (w2.setRow N #[.slice A' n c', .int .u16 (p : Int), .int .u16 (t : Int), .int .u16 (d : Int), .int .u16 (r : Int)])) := below_setRow (HB1.out.trans (hb2.mono (by omega))) (Nat.le_refl _) _
  clear hs2 hm2 hb2 hx2 hy2 hz1 HZ1 HB1 RX1 RY1 HCL
  go_upto_region 2 with (refine wpList_store_row rfl 29 _ _ rfl N #[.slice A' n c', .int .u16 (p : Int), .int .u16 (t : Int), .int .u16 (d : Int), .int .u16 (r : Int)] rfl rfl 29 _ HX2.out (by kernel_rfl) rfl (ring_ones _ _ _ _ _ _ _) ?_)
  generalize w2.setRow N #[.slice A' n c', .int .u16 (p : Int), .int .u16 (t : Int), .int .u16 (d : Int), .int .u16 (r : Int)] = w3 at RX RY HRS HBN ⊢
  obtain ⟨H, hH⟩ : ∃ H, w3.heap.size = H := ⟨_, rfl⟩
  rw [hH] at HRS
  have HH : Hid (H ≤ w3.heap.size) := Nat.le_of_eq hH.symm
  have HRL : Hid (m' ≤ H) := HRS.out.le
  clear HX2 hw1 hH
  have HLL := Lib.hid hL
  have HRFK := Lib.hid (HRF.out.below HBN.out (by have := HHF0.out; omega))
  have HHF : Hid (hiF ≤ w3.heap.size) := by have := HHF0.out; have := HBN.out.size; show _ ≤ _; omega
  have hLn : L ≤ n := by omega
  clear HRF HHF0 hL
  obtain ⟨lf, hlf⟩ : ∃ lf, f.length = lf := ⟨_, rfl⟩
  by_cases q0 : 214 < f.length
  · have HV : Hid (postN n S p L f = (S, p, 4)) := by show _ = _; unfold postN; rw [if_pos q0]
    have hq0 : (214 : Int) < (f.length : Int) := by omega
    rw [hlf] at hq0 q0 ⊢
    obtain ⟨c0, c1, c2, c3, c4⟩ := five_cells RX.out
    go_upto_region 3 with (fail)
    clear c0 c1 c2 c3 c4
    have hmm := HM.out
    have RYE := Lib.hid (setRow_heap w3 (N + 1) _ #[.slice A' n c', .int .u16 (p : Int), .int .u16 (t : Int), .int .u16 (d : Int), .int .u16 (r : Int)] _ _ RY.out)
    have HRE := Lib.hid ((HRS.out.stay (by omega) (Stay.row w3 (g := N + 1) (by omega) #[.slice A' n c', .int .u16 (p : Int), .int .u16 (t : Int), .int .u16 (d : Int), .int .u16 (r : Int)])).wide (lo' := N) (by omega) (Nat.le_refl _))
    have HHE : Hid (H ≤ (w3.setRow (N + 1) #[.slice A' n c', .int .u16 (p : Int), .int .u16 (t : Int), .int .u16 (d : Int), .int .u16 (r : Int)]).heap.size) := by have := HH.out; show _ ≤ _; simpa [World.setRow] using this
    have HBE := Lib.hid (below_setRow HBN.out (by omega : N ≤ N + 1) #[.slice A' n c', .int .u16 (p : Int), .int .u16 (t : Int), .int .u16 (d : Int), .int .u16 (r : Int)])
    obtain ⟨c0, c1, c2, c3, c4⟩ := five_cells RX.out
    go_wp2_with (first | refine wpList_load_row rfl 29 _ rfl N rfl 29 #[.slice A' n c', .int .u16 (p : Int), .int .u16 (t : Int), .int .u16 (d : Int), .int .u16 (r : Int)] (0, 0) _ RX.out Try.underlying29 rfl (by kernel_rfl) ?_ | refine wpList_store_row rfl 29 _ _ rfl (N + 1) #[.slice A' n c', .int .u16 (p : Int), .int .u16 (t : Int), .int .u16 (d : Int), .int .u16 (r : Int)] rfl rfl 29 _ RY.out (by kernel_rfl) rfl (ring_ones _ _ _ _ _ _ _) ?_)
    refine ret_two (g := N + 1) rfl rfl RYE.out Try.underlying29 rfl (by kernel_rfl) rfl ?_
    rw [HV.out]
    exact ⟨_, _, _, _, rfl, HRE.out.wide (Nat.le_refl _) HHE.out, by omega, HBE.out⟩
  · have hq0 : ¬ (214 : Int) < (f.length : Int) := by omega
    have q00 : ¬ 214 < f.length := q0
    clear hlf
    go_upto_region 4 with (fail)
    obtain ⟨c0, c1, c2, c3, c4⟩ := five_cells RX.out
    have k0 := cell_regrown c0
    have k1 := cell_regrown c1
    have k2 := cell_regrown c2
    have k3 := cell_regrown c3
    have k4 := cell_regrown c4
    clear c0 c1 c2 c3 c4
    by_cases q : L = n
    · have HV : Hid (postN n S p L f = (S, p, 5)) := by show _ = _; unfold postN; rw [if_neg q00, if_pos q]
      have hqb : ((L : Int) == (n : Int)) = true := by simp [q]
      clear q00 q0 hq0
      refine wp_region_quiet_below (by kernel_rfl) (by kernel_rfl) ?_
      repeat (quiet_step (first | (go_at_call 26; exact Calls.regrown_of (HCN.out _ _ _)) | (go_at_call 12; exact Calls.regrown_of (HLN.out _ _ _))))
      refine wpQuiet_nil ?_
      intro w4 hw'
      obtain ⟨⟨dq, osq⟩, rfl⟩ := hw'
      have hb4 := below_regrown w3 dq osq
      clear k0 k1 k2 k3 k4
      generalize «Sort».grow (redrawn w3 dq) osq = w4 at hb4 ⊢
      have RX := Lib.hid (old_below RX.out hb4 (row_lt RX.out))
      have RY := Lib.hid (old_below RY.out hb4 (row_lt RY.out))
      have HRS := Lib.hid (HRS.out.stay (by have := HM.out; omega) (Stay.of hb4 HH.out))
      have HH := Lib.hid (Nat.le_trans HH.out hb4.size)
      have HBN := Lib.hid (HBN.out.trans (hb4.mono (by have := HBN.out.size; omega)))
      clear hb4

      obtain ⟨c0, c1, c2, c3, c4⟩ := five_cells RX.out
      go_upto_region 5 with (fail)
      clear c0 c1 c2 c3 c4
      have hmm := HM.out
      have RYE := Lib.hid (setRow_heap w4 (N + 1) _ #[.slice A' n c', .int .u16 (p : Int), .int .u16 (t : Int), .int .u16 (d : Int), .int .u16 (r : Int)] _ _ RY.out)
      have HRE := Lib.hid ((HRS.out.stay (by omega) (Stay.row w4 (g := N + 1) (by omega) #[.slice A' n c', .int .u16 (p : Int), .int .u16 (t : Int), .int .u16 (d : Int), .int .u16 (r : Int)])).wide (lo' := N) (by omega) (Nat.le_refl _))
      have HHE : Hid (H ≤ (w4.setRow (N + 1) #[.slice A' n c', .int .u16 (p : Int), .int .u16 (t : Int), .int .u16 (d : Int), .int .u16 (r : Int)]).heap.size) := by have := HH.out; show _ ≤ _; simpa [World.setRow] using this
      have HBE := Lib.hid (below_setRow HBN.out (by omega : N ≤ N + 1) #[.slice A' n c', .int .u16 (p : Int), .int .u16 (t : Int), .int .u16 (d : Int), .int .u16 (r : Int)])
      obtain ⟨c0, c1, c2, c3, c4⟩ := five_cells RX.out
      go_wp2_with (first | refine wpList_load_row rfl 29 _ rfl N rfl 29 #[.slice A' n c', .int .u16 (p : Int), .int .u16 (t : Int), .int .u16 (d : Int), .int .u16 (r : Int)] (0, 0) _ RX.out Try.underlying29 rfl (by kernel_rfl) ?_ | refine wpList_store_row rfl 29 _ _ rfl (N + 1) #[.slice A' n c', .int .u16 (p : Int), .int .u16 (t : Int), .int .u16 (d : Int), .int .u16 (r : Int)] rfl rfl 29 _ RY.out (by kernel_rfl) rfl (ring_ones _ _ _ _ _ _ _) ?_)
      refine ret_two (g := N + 1) rfl rfl RYE.out Try.underlying29 rfl (by kernel_rfl) rfl ?_
      rw [HV.out]
      exact ⟨_, _, _, _, rfl, HRE.out.wide (Nat.le_refl _) HHE.out, by omega, HBE.out⟩
    · have hqb : ((L : Int) == (n : Int)) = false := by simp; omega
      obtain ⟨i, hi⟩ : ∃ i, p % n = i := ⟨_, rfl⟩
      have hin : i < n := by rw [← hi]; exact mod_lt HN.out _
      have HIN : Hid (i < n) := hin
      have HV : Hid (postN n S p L f = (S.set i f, (p + 1) % 65536, 0)) := by show _ = _; unfold postN; rw [if_neg q00, if_neg q, hi]
      obtain ⟨p', hp'⟩ : ∃ p', (p + 1) % 65536 = p' := ⟨_, rfl⟩
      have hwr := wrap_u16_succ p hp
      rw [hp'] at HV hwr
      clear hp' q00 q0 hq0
      refine wp_region_quiet_below (by kernel_rfl) (by kernel_rfl) ?_
      repeat (quiet_step (first | (go_at_call 26; exact Calls.regrown_of (HCN.out _ _ _)) | (go_at_call 12; exact Calls.regrown_of (HLN.out _ _ _))))
      refine wpQuiet_nil ?_
      intro w4 hw'
      obtain ⟨⟨dq, osq⟩, rfl⟩ := hw'
      have hb4 := below_regrown w3 dq osq
      clear k0 k1 k2 k3 k4
      have HRFK := Lib.hid (HRFK.out.below hb4 HHF.out)
      have HHF : Hid (hiF ≤ («Sort».grow (redrawn w3 dq) osq).heap.size) := Nat.le_trans HHF.out hb4.size
      generalize «Sort».grow (redrawn w3 dq) osq = wk at hb4 HRFK HHF ⊢
      have RX := Lib.hid (old_below RX.out hb4 (row_lt RX.out))
      have RY := Lib.hid (old_below RY.out hb4 (row_lt RY.out))
      have HRS := Lib.hid (HRS.out.stay (by have := HM.out; omega) (Stay.of hb4 HH.out))
      have HH := Lib.hid (Nat.le_trans HH.out hb4.size)
      have HBN := Lib.hid (HBN.out.trans (hb4.mono (by have := HBN.out.size; omega)))
      clear hb4

      obtain ⟨g, c2', cur', e1, -⟩ := ownk_some HRS.out.own (by omega)
      injection e1 with e1 _ e3
      subst e1 e3
      have HROW := Lib.hid HRS.out.own
      have HPL := Lib.hid (fun w => place_num n c' p t d r p (some ⟨g, 0, none⟩) w (by omega) (by omega))
      rw [hi] at HPL
      have hgl : N + 2 ≤ g ∧ g < m' := ⟨(HROW.out.lt g rfl).1, HRS.out.lt g rfl⟩
      obtain ⟨old, hold⟩ : ∃ old, vs'[i]? = some old := ⟨_, List.getElem?_eq_getElem (by rw [HROW.out.1, Nat.mul_one]; exact hin)⟩
      have HOLD := Lib.hid hold
      clear hold cur' hi hin
      obtain ⟨c0, c1, c2, c3, c4⟩ := five_cells RX.out
      go_upto_region 6 with (fail)
      clear c0 c1 c2 c3 c4
      apply wp_region_relyL [] (fun _ w' => Below wk.heap.size wk w') (RL [Is _, Is _, Is (.agg #[.slice (some ⟨g, 0, none⟩) n c', .int .u16 (p : Int), .int .u16 (t : Int), .int .u16 (d : Int), .int .u16 (r : Int)]), Is _, Is _, Is (.int .i64 ((i : Nat) : Int)), Is _, OwnR wk.heap.size 5 1 f.length (cells f), Is (.pointer (some ((⟨g, 0, none⟩ : Addr).add (i * 1))))]) [false, false, false, false, false, false, false, false, false, false, false, false, false, false, false, false, false, false, false, false, false, false, false, false, true, true, true, true, true, true, true, true, true, false, false, false, false, false] _ rfl
      · kernel_rfl
      · kernel_rfl
      · kernel_rfl
      · kernel_rfl
      · refine ⟨?_, ?_, ?_, ?_, ?_, ?_, ?_, ?_, ?_, trivial⟩
        · intro L ev w' hC hL hx K hK
          have e2 : ev (.tmp 2) = _ := hx.base 2 (by kernel_rfl)
          have HK := Lib.hid hK
          have HC := Lib.hid hC
          have HL := Lib.hid hL
          have HX := Lib.hid hx
          have hc := hx.cst
          skip
          clear hx hK hC hL
          unfold Run
          simp [execOp, Upon, go_sem, *]
          exact HK.out _ _ (.inl ⟨Below.refl _ _, by decide⟩) rfl
        · intro L ev w' hC hL hx K hK
          have e24 := hx.held 0 _ rfl (by kernel_rfl)
          change ev (.tmp 24) = _ at e24
          have HK := Lib.hid hK
          have HC := Lib.hid hC
          have HL := Lib.hid hL
          have HX := Lib.hid hx
          have hc := hx.cst
          skip
          clear hx hK hC hL
          obtain ⟨c0, c1, c2, c3, c4⟩ := five_cells (old_below RX.out HC.out (row_lt RX.out))
          unfold Run
          simp [execOp, Upon, go_sem, *]
          exact HK.out _ _ (.inl ⟨Below.refl _ _, by decide⟩) rfl
        · intro L ev w' hC hL hx K hK
          have e2 : ev (.tmp 2) = _ := hx.base 2 (by kernel_rfl)
          have HK := Lib.hid hK
          have HC := Lib.hid hC
          have HL := Lib.hid hL
          have HX := Lib.hid hx
          have hc := hx.cst
          skip
          clear hx hK hC hL
          have q1 : ev (.tmp 2) = .pointer (some ⟨N, 0, none⟩) := e2
          have hld := run_loadVar_row (P := Try.prog) w' N 29 29 #[.slice (some ⟨g, 0, none⟩) n c', .int .u16 (p : Int), .int .u16 (t : Int), .int .u16 (d : Int), .int .u16 (r : Int)] (0, 0) _ (old_below RX.out HC.out (row_lt RX.out)) Try.underlying29 rfl (by kernel_rfl)
          unfold Run
          rw [run_loadE 29 _ rfl q1 hld]
          exact HK.out _ _ (.inl ⟨Below.refl _ _, by decide⟩) rfl
        · intro L ev w' hC hL hx K hK
          have e2 : ev (.tmp 2) = _ := hx.base 2 (by kernel_rfl)
          have HK := Lib.hid hK
          have HC := Lib.hid hC
          have HL := Lib.hid hL
          have HX := Lib.hid hx
          have hc := hx.cst
          skip
          clear hx hK hC hL
          unfold Run
          simp [execOp, Upon, go_sem, *]
          exact HK.out _ _ (.inl ⟨Below.refl _ _, by decide⟩) rfl
        · intro L ev w' hC hL hx K hK
          have e27 := hx.held 3 _ rfl (by kernel_rfl)
          change ev (.tmp 27) = _ at e27
          have HK := Lib.hid hK
          have HC := Lib.hid hC
          have HL := Lib.hid hL
          have HX := Lib.hid hx
          have hc := hx.cst
          skip
          clear hx hK hC hL
          obtain ⟨c0, c1, c2, c3, c4⟩ := five_cells (old_below RX.out HC.out (row_lt RX.out))
          unfold Run
          simp [execOp, Upon, go_sem, *]
          exact HK.out _ _ (.inl ⟨Below.refl _ _, by decide⟩) rfl
        · intro L ev w' hC hL hx K hK
          have e26 := hx.held 2 _ rfl (by kernel_rfl)
          have e28 := hx.held 4 _ rfl (by kernel_rfl)
          change ev (.tmp 26) = _ at e26
          change ev (.tmp 28) = _ at e28
          have HK := Lib.hid hK
          have HC := Lib.hid hC
          have HL := Lib.hid hL
          have HX := Lib.hid hx
          have hc := hx.cst
          have hf := hx.fn
          clear hx hK hC hL
          unfold Run
          simp [execOp, Upon, go_sem, *]
          refine (HPL.out w').mono ?_
          rintro e w9 ⟨rfl, hb9⟩
          exact ⟨_, rfl, HK.out _ _ (.inl ⟨hb9, by decide⟩) rfl⟩
        · intro L ev w' hC hL hx K hK
          have e1 : ev (.tmp 1) = _ := hx.base 1 (by kernel_rfl)
          have HK := Lib.hid hK
          have HC := Lib.hid hC
          have HL := Lib.hid hL
          have HX := Lib.hid hx
          have hc := hx.cst
          skip
          clear hx hK hC hL
          unfold Run
          simp [execOp, Upon, go_sem, *]
          exact HK.out _ _ (.inl ⟨Below.refl _ _, by decide⟩) rfl
        · intro L ev w' hC hL hx K hK
          have e30 := hx.held 6 _ rfl (by kernel_rfl)
          change ev (.tmp 30) = _ at e30
          have HK := Lib.hid hK
          have HC := Lib.hid hC
          have HL := Lib.hid hL
          have HX := Lib.hid hx
          have hc := hx.cst
          have hf := hx.fn
          clear hx hK hC hL
          unfold Run
          simp [execOp, Upon, go_sem, *]
          refine (cloneb_any AF (cells f) f.length cF loF hiF w' (HRFK.out.below HC.out HHF.out) (by have := HC.out.size; have := HHF.out; omega) (by rw [cells_length, Nat.mul_one]) (cells_one f) HAF.out (by have := HFL.out; omega)).mono ?_
          rintro e w9 ⟨u9, rfl, ho9, hb9⟩
          exact ⟨_, rfl, HK.out _ _ (.inl ⟨hb9, by decide⟩) (ownk_base ho9 HC.out.size)⟩
        · intro L ev w' hC hL hx K hK
          have e25 := hx.held 1 _ rfl (by kernel_rfl)
          have e29 := hx.held 5 _ rfl (by kernel_rfl)
          change ev (.tmp 25) = _ at e25
          change ev (.tmp 29) = _ at e29
          have HK := Lib.hid hK
          have HC := Lib.hid hC
          have HL := Lib.hid hL
          have HX := Lib.hid hx
          have hc := hx.cst
          skip
          clear hx hK hC hL
          unfold Run
          rw [run_indexE 27 _ _ rfl Try.underlying27 (size := 1) (by kernel_rfl) e25 e29 HIN.out]
          exact HK.out _ _ (.inl ⟨Below.refl _ _, by decide⟩) rfl
      · exact rl_mono ⟨is_mono _, is_mono _, is_mono _, is_mono _, is_mono _, is_mono _, is_mono _, ownr_mono _ _ _ _ _, is_mono _, trivial⟩
      · exact fun _ _ _ _ h => h
      · exact fun _ _ _ hb h => h.trans (hb.mono h.size)
      · exact Below.refl _ _
      · simp
      intro us wr hG hH
      obtain ⟨-, -, -, -, -, -, -, h7, h8, -⟩ := hH
      simp only [fillM]
      change (OwnR wk.heap.size 5 1 f.length (cells f) : Pred) (us 31) wr at h7
      change us 32 = _ at h8
      rw [h8]
      clear h8
      generalize us 24 = v24
      generalize us 25 = v25
      generalize us 26 = v26
      generalize us 27 = v27
      generalize us 28 = v28
      generalize us 29 = v29
      generalize us 30 = v30
      generalize us 31 = v31 at h7 ⊢
      have HRO := Lib.hid h7
      have HGB := Lib.hid hG
      clear h7 hG
      obtain ⟨Af, cf, rfl, -⟩ := ownk_form HRO.out
      have hrw := ownk_below HROW.out HGB.out (Nat.le_refl _)
      obtain ⟨cur, hg4, -, hnc, -, hcs, -⟩ := own_at0 hrw (by omega)
      have hsv := run_store_cell (P := Try.prog) wr g i 35 (.slice Af f.length cf) old (by kernel_rfl) rfl rfl (own_cell hrw HOLD.out) (frozen_of_row wr g i cur _ hg4)
      rw [show ((⟨g, 0, none⟩ : Addr).add (i * 1)) = ⟨g, i, none⟩ from by rw [Addr.add_mid]; simp]
      refine wp_of_run ?_
      unfold Run
      rw [run_storeE 35 _ _ rfl rfl rfl hsv]
      simp only [Upon, Act.put]
      have hmm := HM.out
      have hgk : g < wk.heap.size := (HROW.out.lt g rfl).2
      have RX5 : Hid ((wr.setCell ⟨g, i, none⟩ (.slice Af f.length cf)).heap[N]? = some (.cells #[.slice (some ⟨g, 0, none⟩) n c', .int .u16 (p : Int), .int .u16 (t : Int), .int .u16 (d : Int), .int .u16 (r : Int)] 29 (0, 0))) := (heap_setCell_other wr _ _ _ (by show N ≠ g; omega)).trans (old_below RX.out HGB.out (row_lt RX.out))
      have RY5 : Hid ((wr.setCell ⟨g, i, none⟩ (.slice Af f.length cf)).heap[N + 1]? = some (.cells #[.slice none 0 0, .int .u16 0, .int .u16 0, .int .u16 0, .int .u16 0] 29 (0, 0))) := (heap_setCell_other wr _ _ _ (by show N + 1 ≠ g; omega)).trans (old_below RY.out HGB.out (row_lt RY.out))
      have hst : ∀ hi, Stay m' hi wr (wr.setCell ⟨g, i, none⟩ (.slice Af f.length cf)) := fun hi => Stay.cell wr (by show g < m' ∨ _; omega) _
      have HRS5 : Hid (RgS (N + 2) m' wr.heap.size n (S.set i f) (wr.setCell ⟨g, i, none⟩ (.slice Af f.length cf)) (some ⟨g, 0, none⟩) c' (vs'.set i (.slice Af f.length cf))) := by
        have hk := HH.out
        have hk2 := HGB.out.size
        have hk3 := HRL.out
        refine ⟨own_put hrw HIN.out rfl, HRS.out.lt, by omega, ?_⟩
        refine (((HRS.out.fr.stay (Stay.of HGB.out HH.out)).stay (hst H)).wide (Nat.le_refl _) (by omega)).set i ?_
        exact ((BV.own HRO.out).stay (Stay.cell wr (by show g < wk.heap.size ∨ _; omega) _)).wide (by omega) (Nat.le_refl _)
      have HBN5 : Hid (Below N w (wr.setCell ⟨g, i, none⟩ (.slice Af f.length cf))) := (HBN.out.trans (HGB.out.mono (by have := HBN.out.size; omega))).setCell (by show N ≤ g; omega) _
      obtain ⟨H2, hH2⟩ : ∃ H2, wr.heap.size = H2 := ⟨_, rfl⟩
      have HH5 : Hid (H2 ≤ (wr.setCell ⟨g, i, none⟩ (.slice Af f.length cf)).heap.size) := by rw [← hH2]; show _ ≤ _; simp
      have HRL2 : Hid (m' ≤ H2) := by rw [← hH2]; exact HRS5.out.le
      rw [hH2] at HRS5
      generalize wr.setCell ⟨g, i, none⟩ (.slice Af f.length cf) = w6 at RX5 RY5 HRS5 HBN5 HH5 ⊢
      clear RX RY HRS HBN HH HROW hst hmm hsv hg4 hcs hrw HRL hH2 HGB HRO
      have HRL := HRL2
      have RX := RX5
      have RY := RY5
      have HRS := HRS5
      have HBN := HBN5
      have HH := HH5
      clear RX5 RY5 HRS5 HBN5 HH5 HRL2
      have hmm := HM.out
      have RX5 : Hid ((w6.setCell ⟨N, 1, none⟩ (.int .u16 (p' : Int))).heap[N]? = some (.cells #[.slice (some ⟨g, 0, none⟩) n c', .int .u16 (p' : Int), .int .u16 (t : Int), .int .u16 (d : Int), .int .u16 (r : Int)] 29 (0, 0))) := heap_setCell_same w6 N 1 _ _ (.int .u16 (p' : Int)) RX.out
      have RY5 : Hid ((w6.setCell ⟨N, 1, none⟩ (.int .u16 (p' : Int))).heap[N + 1]? = some (.cells #[.slice none 0 0, .int .u16 0, .int .u16 0, .int .u16 0, .int .u16 0] 29 (0, 0))) := (heap_setCell_other w6 _ _ _ (by show N + 1 ≠ N; omega)).trans RY.out
      have HRS5 := Lib.hid (HRS.out.stay (by omega) (Stay.cell w6 (p := ⟨N, 1, none⟩) (by show N < N + 2 ∨ _; omega) (.int .u16 (p' : Int))))
      have HH5 : Hid (H2 ≤ (w6.setCell ⟨N, 1, none⟩ (.int .u16 (p' : Int))).heap.size) := by have := HH.out; show _ ≤ _; simpa using this
      have HBN5 : Hid (Below N w (w6.setCell ⟨N, 1, none⟩ (.int .u16 (p' : Int)))) := HBN.out.setCell (Nat.le_refl _) _
      obtain ⟨c0, c1, c2, c3, c4⟩ := five_cells RX.out
      have fz := frozen_of_row w6 N 1 _ _ RX.out
      go_upto_region 8 with (fail)
      clear c0 c1 c2 c3 c4 fz hmm
      generalize w6.setCell ⟨N, 1, none⟩ (.int .u16 (p' : Int)) = w7 at RX5 RY5 HRS5 HBN5 HH5 ⊢
      clear RX RY HRS HBN HH
      have RX := RX5
      have RY := RY5
      have HRS := HRS5
      have HBN := HBN5
      have HH := HH5
      clear RX5 RY5 HRS5 HBN5 HH5
      have hmm := HM.out
      have RYE := Lib.hid (setRow_heap w7 (N + 1) _ #[.slice (some ⟨g, 0, none⟩) n c', .int .u16 (p' : Int), .int .u16 (t : Int), .int .u16 (d : Int), .int .u16 (r : Int)] _ _ RY.out)
      have HRE := Lib.hid ((HRS.out.stay (by omega) (Stay.row w7 (g := N + 1) (by omega) #[.slice (some ⟨g, 0, none⟩) n c', .int .u16 (p' : Int), .int .u16 (t : Int), .int .u16 (d : Int), .int .u16 (r : Int)])).wide (lo' := N) (by omega) (Nat.le_refl _))
      have HHE : Hid (H2 ≤ (w7.setRow (N + 1) #[.slice (some ⟨g, 0, none⟩) n c', .int .u16 (p' : Int), .int .u16 (t : Int), .int .u16 (d : Int), .int .u16 (r : Int)]).heap.size) := by have := HH.out; show _ ≤ _; simpa [World.setRow] using this
      have HBE := Lib.hid (below_setRow HBN.out (by omega : N ≤ N + 1) #[.slice (some ⟨g, 0, none⟩) n c', .int .u16 (p' : Int), .int .u16 (t : Int), .int .u16 (d : Int), .int .u16 (r : Int)])
      obtain ⟨c0, c1, c2, c3, c4⟩ := five_cells RX.out
      go_wp2_with (first | refine wpList_load_row rfl 29 _ rfl N rfl 29 #[.slice (some ⟨g, 0, none⟩) n c', .int .u16 (p' : Int), .int .u16 (t : Int), .int .u16 (d : Int), .int .u16 (r : Int)] (0, 0) _ RX.out Try.underlying29 rfl (by kernel_rfl) ?_ | refine wpList_store_row rfl 29 _ _ rfl (N + 1) #[.slice (some ⟨g, 0, none⟩) n c', .int .u16 (p' : Int), .int .u16 (t : Int), .int .u16 (d : Int), .int .u16 (r : Int)] rfl rfl 29 _ RY.out (by kernel_rfl) rfl (ring_ones _ _ _ _ _ _ _) ?_)
      refine ret_two (g := N + 1) rfl rfl RYE.out Try.underlying29 rfl (by kernel_rfl) rfl ?_
      rw [HV.out]
      first
        | exact ⟨_, _, _, _, rfl, HRE.out.wide (Nat.le_refl _) HHE.out, by omega, HBE.out⟩
        | exact ⟨_, _, rfl, _, _, HRE.out.wide (Nat.le_refl _) HHE.out, by omega, HBE.out⟩
end Go.Proofs.Ytdbiledmokldjaa
