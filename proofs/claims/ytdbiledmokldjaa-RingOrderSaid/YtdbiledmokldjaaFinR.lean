/-
  ring.Finish. Every right ring. No condition beyond that.
-/
import Derived.Test.YtdbiledmokldjaaClR
namespace Go.Proofs.Ytdbiledmokldjaa
open Go.RowKit

def finN (d T : Nat) : Nat × Nat := if T = 0 then (d, 2) else ((d + 1) % 65536, 0)
theorem wrap_u16_succ (k : Nat) (_ : k < 65536) : IntKind.u16.wrap ((k : Int) + 1) = (((k + 1) % 65536 : Nat) : Int) := by
  rw [IntKind.wrap_u16]
  omega
set_option maxRecDepth 100000 in
set_option maxHeartbeats 2000000 in
theorem fin_num (n c p t d r D T P lo m hi : Nat) (A : Option Addr) (S : List Fr) (vs : List Value) (w : World) (hs : RgS lo m hi n S w A c vs) (hn : MayN n) (hS : S.length = n) (hsm : ∀ f ∈ S, f.length ≤ 214) (hhi : hi ≤ w.heap.size) (hp : p < 65536) (ht : t < 65536) (hd : d < 65536) (hr : r < 65536) (h1 : d = (r + D) % 65536) (h2 : t = (r + (D + T)) % 65536) (h3 : p = (r + (D + T + P)) % 65536) (hle : D + T + P ≤ n) :
    Calls Try.prog 17 #[.agg #[.slice A n c, .int .u16 (p : Int), .int .u16 (t : Int), .int .u16 (d : Int), .int .u16 (r : Int)]] w fun e w' => ∃ A' c' vs' m', e = .returned (.tuple #[.agg #[.slice A' n c', .int .u16 (p : Int), .int .u16 (t : Int), .int .u16 ((finN d T).1 : Int), .int .u16 (r : Int)], .int .i64 ((finN d T).2 : Int)]) ∧ RgS w.heap.size m' w'.heap.size n S w' A' c' vs' ∧ w.heap.size ≤ m' ∧ Below w.heap.size w w' := by
  have hpos := hn.pos
  obtain ⟨hp1, hp2⟩ := hpos
  obtain ⟨N, hN⟩ : ∃ N, w.heap.size = N := ⟨_, rfl⟩
  obtain ⟨w1, hw1⟩ : ∃ w1, (w.alloc (.cells #[.slice A n c, .int .u16 (p : Int), .int .u16 (t : Int), .int .u16 (d : Int), .int .u16 (r : Int)] 29)).alloc (.cells #[.slice none 0 0, .int .u16 0, .int .u16 0, .int .u16 0, .int .u16 0] 29) = w1 := ⟨_, rfl⟩
  have HB1 : Hid (Below N w w1) := by rw [← hw1]; exact ((Below.refl _ _).alloc (by omega) _).alloc (by simp; omega) _
  have HZ1 : Hid (w1.heap.size = N + 2) := by rw [← hw1]; show _ = _; simp [hN]
  have RX1 : Hid (w1.heap[N]? = some (.cells #[.slice A n c, .int .u16 (p : Int), .int .u16 (t : Int), .int .u16 (d : Int), .int .u16 (r : Int)] 29 (0, 0))) := by rw [← hw1, ← hN]; exact old_alloc (heap_alloc_new w _) _
  have RY1 : Hid (w1.heap[N + 1]? = some (.cells #[.slice none 0 0, .int .u16 0, .int .u16 0, .int .u16 0, .int .u16 0] 29 (0, 0))) := by rw [← hw1, ← hN]; exact new_at1 w _ _
  have hs1 : RgS 0 m hi n S w1 A c vs := (hs.wide (Nat.zero_le _) (Nat.le_refl _)).stay (Nat.zero_le _) (Stay.of HB1.out (by omega))
  have HCL := Lib.hid (clone_num n c p t d r 0 m hi A S vs w1 hs1 hn hS hsm (Nat.le_trans hhi HB1.out.size))
  have HCN : Hid (∀ (A : Option Addr) (c : Nat) (w : World), Calls Try.prog 26 #[.agg #[.slice A n c, .int .u16 (p : Int), .int .u16 (t : Int), .int .u16 (d : Int), .int .u16 (r : Int)]] w fun e w' => e = .returned (.bool true) ∧ Below w.heap.size w w') := fun A c w => counts_num n c p t d r D T P A w hn hp ht hd hr h1 h2 h3 hle
  have HN := Lib.hid hn
  have HSL := Lib.hid hS
  have HSM := Lib.hid hsm
  have H3 := Lib.hid h3
  have H2 := Lib.hid h2
  have H1 := Lib.hid h1
  rw [hN]
  obtain ⟨c0, c1, c2, c3, c4⟩ := five_cells RX1.out
  clear hs hs1 hn hS hsm h1 h2 h3
  go_enter Try.func17, Try.ntmps17
  go_wp2_with fail
  clear c0 c1 c2 c3 c4
  refine HCL.out.mono ?_
  rintro e w2 ⟨A', c', vs', m', rfl, hs2, hm2, hb2⟩
  have hz1 := HZ1.out
  have hx2 := old_below RX1.out hb2 (by omega)
  have hy2 := old_below RY1.out hb2 (by omega)
  have HX2 := Lib.hid hx2
  have RX : Hid ((w2.setRow N #[.slice A' n c', .int .u16 (p : Int), .int .u16 (t : Int), .int .u16 (d : Int), .int .u16 (r : Int)]).heap[N]? = some (.cells #[.slice A' n c', .int .u16 (p : Int), .int .u16 (t : Int), .int .u16 (d : Int), .int .u16 (r : Int)] 29 (0, 0))) := setRow_heap _ _ _ _ _ _ hx2
  have RY : Hid ((w2.setRow N #[.slice A' n c', .int .u16 (p : Int), .int .u16 (t : Int), .int .u16 (d : Int), .int .u16 (r : Int)]).heap[N + 1]? = some (.cells #[.slice none 0 0, .int .u16 0, .int .u16 0, .int .u16 0, .int .u16 0] 29 (0, 0))) := (setRow_other _ _ _ _ (by omega)).trans hy2
  have HRS : Hid (RgS (N + 2) m' (w2.setRow N #[.slice A' n c', .int .u16 (p : Int), .int .u16 (t : Int), .int .u16 (d : Int), .int .u16 (r : Int)]).heap.size n S (w2.setRow N #[.slice A' n c', .int .u16 (p : Int), .int .u16 (t : Int), .int .u16 (d : Int), .int .u16 (r : Int)]) A' c' vs') := by
    rw [hz1] at hs2 hm2
    exact (hs2.stay hm2 (Stay.row w2 (by omega) _)).wide (Nat.le_refl _) (by simp [World.setRow])
  have HM : Hid (N + 2 ≤ m') := by show _ ≤ _; omega
  have HBN : Hid (Below N w (w2.setRow N #[.slice A' n c', .int .u16 (p : Int), .int .u16 (t : Int), .int .u16 (d : Int), .int .u16 (r : Int)])) := below_setRow (HB1.out.trans (hb2.mono (by omega))) (Nat.le_refl _) _
  clear hs2 hm2 hb2 hx2 hy2 hz1 HZ1 HB1 RX1 RY1 HCL
  go_upto_region 2 with (refine wpList_store_row rfl 29 _ _ rfl N #[.slice A' n c', .int .u16 (p : Int), .int .u16 (t : Int), .int .u16 (d : Int), .int .u16 (r : Int)] rfl rfl 29 _ HX2.out (by kernel_rfl) rfl (ring_ones _ _ _ _ _ _ _) ?_)
  generalize w2.setRow N #[.slice A' n c', .int .u16 (p : Int), .int .u16 (t : Int), .int .u16 (d : Int), .int .u16 (r : Int)] = w3 at RX RY HRS HBN ⊢
  obtain ⟨H, hH⟩ : ∃ H, w3.heap.size = H := ⟨_, rfl⟩
  rw [hH] at HRS
  have HH : Hid (H ≤ w3.heap.size) := Nat.le_of_eq hH.symm
  have HRL : Hid (m' ≤ H) := HRS.out.le
  clear HX2 hw1 hH
  obtain ⟨c0, c1, c2, c3, c4⟩ := five_cells RX.out
  go_wp2_with (refine wpList_load_row rfl 29 _ rfl N rfl 29 #[.slice A' n c', .int .u16 (p : Int), .int .u16 (t : Int), .int .u16 (d : Int), .int .u16 (r : Int)] (0, 0) _ RX.out Try.underlying29 rfl (by kernel_rfl) ?_)
  clear c0 c1 c2 c3 c4
  refine (HCN.out A' c' w3).mono ?_
  rintro e w4 ⟨rfl, hb4⟩
  have RX := Lib.hid (old_below RX.out hb4 (row_lt RX.out))
  have RY := Lib.hid (old_below RY.out hb4 (row_lt RY.out))
  have HRS := Lib.hid (HRS.out.stay (by have := HM.out; omega) (Stay.of hb4 HH.out))
  have HH := Lib.hid (Nat.le_trans HH.out hb4.size)
  have HBN := Lib.hid (HBN.out.trans (hb4.mono (by have := HBN.out.size; omega)))
  clear hb4

  by_cases q : T = 0
  · have hdt : d = t := by have := H1.out; have := H2.out; omega
    subst hdt
    have HV : Hid (finN d T = (d, 2)) := by show _ = _; unfold finN; rw [if_pos q]
    obtain ⟨c0, c1, c2, c3, c4⟩ := five_cells RX.out
    go_upto_region 3 with (fail)
    clear c0 c1 c2 c3 c4
    have hmm := HM.out
    have RYE := Lib.hid (setRow_heap w4 (N + 1) _ #[.slice A' n c', .int .u16 (p : Int), .int .u16 (d : Int), .int .u16 (d : Int), .int .u16 (r : Int)] _ _ RY.out)
    have HRE := Lib.hid ((HRS.out.stay (by omega) (Stay.row w4 (g := N + 1) (by omega) #[.slice A' n c', .int .u16 (p : Int), .int .u16 (d : Int), .int .u16 (d : Int), .int .u16 (r : Int)])).wide (lo' := N) (by omega) (Nat.le_refl _))
    have HHE : Hid (H ≤ (w4.setRow (N + 1) #[.slice A' n c', .int .u16 (p : Int), .int .u16 (d : Int), .int .u16 (d : Int), .int .u16 (r : Int)]).heap.size) := by have := HH.out; show _ ≤ _; simpa [World.setRow] using this
    have HBE := Lib.hid (below_setRow HBN.out (by omega : N ≤ N + 1) #[.slice A' n c', .int .u16 (p : Int), .int .u16 (d : Int), .int .u16 (d : Int), .int .u16 (r : Int)])
    obtain ⟨c0, c1, c2, c3, c4⟩ := five_cells RX.out
    go_wp2_with (first | refine wpList_load_row rfl 29 _ rfl N rfl 29 #[.slice A' n c', .int .u16 (p : Int), .int .u16 (d : Int), .int .u16 (d : Int), .int .u16 (r : Int)] (0, 0) _ RX.out Try.underlying29 rfl (by kernel_rfl) ?_ | refine wpList_store_row rfl 29 _ _ rfl (N + 1) #[.slice A' n c', .int .u16 (p : Int), .int .u16 (d : Int), .int .u16 (d : Int), .int .u16 (r : Int)] rfl rfl 29 _ RY.out (by kernel_rfl) rfl (ring_ones _ _ _ _ _ _ _) ?_)
    refine ret_two (g := N + 1) rfl rfl RYE.out Try.underlying29 rfl (by kernel_rfl) rfl ?_
    rw [HV.out]
    exact ⟨_, _, _, _, rfl, HRE.out.wide (Nat.le_refl _) HHE.out, by omega, HBE.out⟩
  · have hdt : ¬ (d : Int) = (t : Int) := by have := H1.out; have := H2.out; omega
    have HV : Hid (finN d T = ((d + 1) % 65536, 0)) := by show _ = _; unfold finN; rw [if_neg q]
    obtain ⟨d', hd'⟩ : ∃ d', (d + 1) % 65536 = d' := ⟨_, rfl⟩
    have hwr := wrap_u16_succ d hd
    rw [hd'] at HV hwr
    clear hd'
    have hmm := HM.out
    have RX5 : Hid ((w4.setCell ⟨N, 3, none⟩ (.int .u16 (d' : Int))).heap[N]? = some (.cells #[.slice A' n c', .int .u16 (p : Int), .int .u16 (t : Int), .int .u16 (d' : Int), .int .u16 (r : Int)] 29 (0, 0))) := heap_setCell_same w4 N 3 _ _ (.int .u16 (d' : Int)) RX.out
    have RY5 : Hid ((w4.setCell ⟨N, 3, none⟩ (.int .u16 (d' : Int))).heap[N + 1]? = some (.cells #[.slice none 0 0, .int .u16 0, .int .u16 0, .int .u16 0, .int .u16 0] 29 (0, 0))) := (heap_setCell_other w4 _ _ _ (by show N + 1 ≠ N; omega)).trans RY.out
    have HRS5 := Lib.hid (HRS.out.stay (by omega) (Stay.cell w4 (p := ⟨N, 3, none⟩) (by show N < N + 2 ∨ _; omega) (.int .u16 (d' : Int))))
    have HH5 : Hid (H ≤ (w4.setCell ⟨N, 3, none⟩ (.int .u16 (d' : Int))).heap.size) := by have := HH.out; show _ ≤ _; simpa using this
    have HBN5 : Hid (Below N w (w4.setCell ⟨N, 3, none⟩ (.int .u16 (d' : Int)))) := HBN.out.setCell (Nat.le_refl _) _
    obtain ⟨c0, c1, c2, c3, c4⟩ := five_cells RX.out
    have fz := frozen_of_row w4 N 3 _ _ RX.out
    go_upto_region 5 with (fail)
    clear c0 c1 c2 c3 c4 fz hmm
    generalize w4.setCell ⟨N, 3, none⟩ (.int .u16 (d' : Int)) = w5 at RX5 RY5 HRS5 HBN5 HH5 ⊢
    clear RX RY HRS HBN HH
    have RX := RX5
    have RY := RY5
    have HRS := HRS5
    have HBN := HBN5
    have HH := HH5
    clear RX5 RY5 HRS5 HBN5 HH5
    have hmm := HM.out
    have RYE := Lib.hid (setRow_heap w5 (N + 1) _ #[.slice A' n c', .int .u16 (p : Int), .int .u16 (t : Int), .int .u16 (d' : Int), .int .u16 (r : Int)] _ _ RY.out)
    have HRE := Lib.hid ((HRS.out.stay (by omega) (Stay.row w5 (g := N + 1) (by omega) #[.slice A' n c', .int .u16 (p : Int), .int .u16 (t : Int), .int .u16 (d' : Int), .int .u16 (r : Int)])).wide (lo' := N) (by omega) (Nat.le_refl _))
    have HHE : Hid (H ≤ (w5.setRow (N + 1) #[.slice A' n c', .int .u16 (p : Int), .int .u16 (t : Int), .int .u16 (d' : Int), .int .u16 (r : Int)]).heap.size) := by have := HH.out; show _ ≤ _; simpa [World.setRow] using this
    have HBE := Lib.hid (below_setRow HBN.out (by omega : N ≤ N + 1) #[.slice A' n c', .int .u16 (p : Int), .int .u16 (t : Int), .int .u16 (d' : Int), .int .u16 (r : Int)])
    obtain ⟨c0, c1, c2, c3, c4⟩ := five_cells RX.out
    go_wp2_with (first | refine wpList_load_row rfl 29 _ rfl N rfl 29 #[.slice A' n c', .int .u16 (p : Int), .int .u16 (t : Int), .int .u16 (d' : Int), .int .u16 (r : Int)] (0, 0) _ RX.out Try.underlying29 rfl (by kernel_rfl) ?_ | refine wpList_store_row rfl 29 _ _ rfl (N + 1) #[.slice A' n c', .int .u16 (p : Int), .int .u16 (t : Int), .int .u16 (d' : Int), .int .u16 (r : Int)] rfl rfl 29 _ RY.out (by kernel_rfl) rfl (ring_ones _ _ _ _ _ _ _) ?_)
    refine ret_two (g := N + 1) rfl rfl RYE.out Try.underlying29 rfl (by kernel_rfl) rfl ?_
    rw [HV.out]
    exact ⟨_, _, _, _, rfl, HRE.out.wide (Nat.le_refl _) HHE.out, by omega, HBE.out⟩
end Go.Proofs.Ytdbiledmokldjaa
