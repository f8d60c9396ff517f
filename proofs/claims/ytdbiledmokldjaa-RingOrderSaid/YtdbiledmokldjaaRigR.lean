/-
  ring.Right, ring.New: every right ring; as many places as may be. No condition beyond that.
-/
import Derived.Test.YtdbiledmokldjaaPosR
namespace Go.Proofs.Ytdbiledmokldjaa
open Go.RowKit

theorem new_any (n : Nat) (hn : MayN n) (w : World) :
    Calls Try.prog 20 #[.int .i64 (n : Int)] w fun e w' => ∃ A c vs m, e = .returned (.tuple #[.agg #[.slice A n c, .int .u16 0, .int .u16 0, .int .u16 0, .int .u16 0], .int .i64 0]) ∧ RgS w.heap.size m w'.heap.size n (List.replicate n []) w' A c vs ∧ w.heap.size ≤ m ∧ Below w.heap.size w w' := by
  have hpos := hn.pos
  obtain ⟨hp1, hp2⟩ := hpos
  have HMY := Lib.hid (fun w => may_below n hn w)
  have hmk : ∀ w : World, (Instr.makeSlice 27 (.int .i64 (n : Int)) (.int .i64 (n : Int))).run Try.prog w = .ok (.slice (some ⟨w.heap.size, 0, none⟩) n n) (w.alloc (.cells (madeCells #[.slice none 0 0] n) 35)) := fun w =>
    run_make_row' (P := Try.prog) 27 35 (.slice none 0 0) 24 Try.underlying27 info_bs rfl .i64 .i64 n (by omega) (by omega) w
  obtain ⟨N, hN⟩ : ∃ N, w.heap.size = N := ⟨_, rfl⟩
  have HB1 := Lib.hid ((Below.refl w.heap.size w).alloc (Nat.le_refl _) (.cells #[.slice none 0 0, .int .u16 0, .int .u16 0, .int .u16 0, .int .u16 0] 29))
  have RY := Lib.hid (heap_alloc_new w (.cells #[.slice none 0 0, .int .u16 0, .int .u16 0, .int .u16 0, .int .u16 0] 29))
  rw [hN] at RY HB1 ⊢
  clear hn
  go_enter Try.func20, Try.ntmps20
  go_wp2_with fail
  refine (HMY.out _).mono ?_
  rintro e w2 ⟨rfl, hb2⟩
  have hz : N < w2.heap.size := row_lt (old_below RY.out hb2 (row_lt RY.out))
  have RY2 := Lib.hid (old_alloc (old_below RY.out hb2 (row_lt RY.out)) (.cells (madeCells #[.slice none 0 0] n) 35))
  have RG2 := Lib.hid (heap_alloc_new w2 (.cells (madeCells #[.slice none 0 0] n) 35))
  have HB2 := Lib.hid ((HB1.out.trans (hb2.mono (by have := HB1.out.size; omega))).alloc (by omega) (.cells (madeCells #[.slice none 0 0] n) 35))
  clear hb2 RY HB1 HMY
  go_wp2_with (first | refine wpList_store_row rfl 29 _ _ rfl N #[.slice (some ⟨w2.heap.size, 0, none⟩) n n, .int .u16 0, .int .u16 0, .int .u16 0, .int .u16 0] rfl rfl 29 _ RY2.out (by kernel_rfl) rfl (ring_ones _ _ _ _ _ _ _) ?_)
  have RYE := Lib.hid (setRow_heap _ N _ (#[.slice (some ⟨w2.heap.size, 0, none⟩) n n, .int .u16 0, .int .u16 0, .int .u16 0, .int .u16 0] : Array Value) _ _ RY2.out)
  have RGE := Lib.hid ((setRow_other _ N w2.heap.size (#[.slice (some ⟨w2.heap.size, 0, none⟩) n n, .int .u16 0, .int .u16 0, .int .u16 0, .int .u16 0] : Array Value) (by omega)).trans RG2.out)
  have HBE := Lib.hid (below_setRow HB2.out (Nat.le_refl _) (#[.slice (some ⟨w2.heap.size, 0, none⟩) n n, .int .u16 0, .int .u16 0, .int .u16 0, .int .u16 0] : Array Value))
  refine ret_two (g := N) rfl rfl RYE.out Try.underlying29 rfl (by kernel_rfl) rfl ?_
  refine ⟨_, _, List.replicate n (.slice none 0 0), w2.heap.size + 1, rfl, ⟨made_own _ w2.heap.size N n (.slice none 0 0) 35 RGE.out (by omega) (by unfold maxLen; omega), fun g e => ?_, ?_, FrB.nils n⟩, by omega, HBE.out⟩
  · injection e with e
    injection e with e
    omega
  · simp [World.setRow]
theorem add_u16 (a b : Nat) (_ : a < 65536) (_ : b < 65536) : IntKind.u16.wrap ((a : Int) + (b : Int)) = (((a + b) % 65536 : Nat) : Int) := by
  rw [IntKind.wrap_u16]
  omega
set_option maxRecDepth 100000 in
set_option maxHeartbeats 4000000 in
theorem right_num (n c p t d r D T P lo m hi : Nat) (A : Option Addr) (S : List Fr) (vs : List Value) (l : List Fr) (w : World) (hs : RgS lo m hi n S w A c vs) (hn : MayN n) (hl : Lies n r l S) (hll : l.length = D + T + P) (hhi : hi ≤ w.heap.size) (hp : p < 65536) (ht : t < 65536) (hd : d < 65536) (hr : r < 65536) (h1 : d = (r + D) % 65536) (h2 : t = (r + (D + T)) % 65536) (h3 : p = (r + (D + T + P)) % 65536) (hle : D + T + P ≤ n) :
    Calls Try.prog 11 #[.agg #[.slice A n c, .int .u16 (p : Int), .int .u16 (t : Int), .int .u16 (d : Int), .int .u16 (r : Int)]] w fun e w' => e = .returned (.bool true) ∧ Below w.heap.size w w' := by
  have hpos := hn.pos
  obtain ⟨hp1, hp2⟩ := hpos
  obtain ⟨N, hN⟩ : ∃ N, w.heap.size = N := ⟨_, rfl⟩
  have HCN := Lib.hid (fun w => counts_num n c p t d r D T P A w hn hp ht hd hr h1 h2 h3 hle)
  obtain ⟨L, hL⟩ : ∃ L, D + T + P = L := ⟨_, rfl⟩
  rw [hL] at h3 hle hll
  have HB1 := Lib.hid ((Below.refl w.heap.size w).alloc (Nat.le_refl _) (.cells #[.slice A n c, .int .u16 (p : Int), .int .u16 (t : Int), .int .u16 (d : Int), .int .u16 (r : Int)] 29))
  have RX1 := Lib.hid (heap_alloc_new w (.cells #[.slice A n c, .int .u16 (p : Int), .int .u16 (t : Int), .int .u16 (d : Int), .int .u16 (r : Int)] 29))
  obtain ⟨g, c2', cur', e1, -⟩ := ownk_some hs.own (by omega)
  injection e1 with e1 _ e3
  subst e1 e3
  have HFR := Lib.hid hs.fr
  have HRO := Lib.hid hs.own
  have HLT := Lib.hid hs.lt
  have HN := Lib.hid hn
  have HLI := Lib.hid hl
  have HLL := Lib.hid hll
  have H3 := Lib.hid h3
  have HHI := Lib.hid hhi
  obtain ⟨e, he⟩ : ∃ e, (r + n) % 65536 = e := ⟨_, rfl⟩
  have hwn : IntKind.u16.wrap (n : Int) = (n : Int) := IntWalk.u16_in _ ⟨by omega, by omega⟩
  have hwe : IntKind.u16.wrap ((r : Int) + (n : Int)) = (e : Int) := by rw [add_u16 r n hr (by omega), he]
  have HE := Lib.hid he
  rw [hN] at RX1 HB1 ⊢
  clear hs hn hl hll h1 h2 h3 hhi hL he cur'
  obtain ⟨c0, c1', c2, c3, c4⟩ := five_cells RX1.out
  go_enter Try.func11, Try.ntmps11
  go_wp2_with (refine wpList_load_row rfl 29 _ rfl N rfl 29 #[.slice (some ⟨g, 0, none⟩) n c, .int .u16 (p : Int), .int .u16 (t : Int), .int .u16 (d : Int), .int .u16 (r : Int)] (0, 0) _ RX1.out Try.underlying29 rfl (by kernel_rfl) ?_)
  clear c0 c1' c2 c3 c4
  refine (HCN.out _).mono ?_
  rintro e' w2 ⟨rfl, hb2⟩
  have RX := Lib.hid (old_below RX1.out hb2 (row_lt RX1.out))
  have HB := Lib.hid (HB1.out.trans (hb2.mono (by have := HB1.out.size; omega)))
  clear hb2 RX1 HB1 HCN
  obtain ⟨c0, c1', c2, c3, c4⟩ := five_cells RX.out
  go_wp2
  clear c0 c1' c2 c3 c4
  go_loopw [3] (fun t3 wr => ∃ (j k : Nat), L + j ≤ n ∧ k < 65536 ∧ t3 = .int .u16 (k : Int) ∧ Hid (k = (r + (L + j)) % 65536) ∧ Hid (wr.heap[N]? = some (.cells #[.slice (some ⟨g, 0, none⟩) n c, .int .u16 (p : Int), .int .u16 (t : Int), .int .u16 (d : Int), .int .u16 (r : Int)] 29 (0, 0))) ∧ Hid (Below N w wr) ∧ j ≤ n - L) (fun t3 _ => (e + 65536 - (intOf t3).toNat) % 65536)
  case atStart => exact ⟨0, p, by omega, hp, rfl, H3, RX, HB, Nat.zero_le _⟩
  case round =>
    obtain ⟨j, k, hj, hk, rfl, HK0, RX', HB', hjn⟩ := hrel
    clear RX HB
    have RX := RX'
    have HB := HB'
    clear RX' HB'
    obtain ⟨c0, c1', c2, c3, c4⟩ := five_cells RX.out
    by_cases q : L + j = n
    · have hke : (k : Int) = (e : Int) := by have := HK0.out; have := HE.out; omega
      go_wp2
      go_ret
      exact ⟨rfl, HB.out⟩
    · have hke : ¬ (k : Int) = (e : Int) := by have := HK0.out; have := HE.out; omega
      obtain ⟨i, hi'⟩ : ∃ i, k % n = i := ⟨_, rfl⟩
      have hin : i < n := by rw [← hi']; exact mod_lt HN.out _
      have hSi : S[i]? = some [] := by
        have := HLI.out.free (L + j) (by rw [HLL.out]; omega) (by omega)
        rw [← hi', HK0.out, mod_big0 HN.out]
        exact this
      obtain ⟨v, hv1, A1, c1, rfl, -, -⟩ := HFR.out.2 i [] hSi
      have hcell := own_cell (ownk_below HRO.out HB.out (by omega)) hv1
      have HPL := Lib.hid (fun w => place_num n c p t d r k (some ⟨g, 0, none⟩) w hk (by omega))
      rw [hi'] at HPL
      obtain ⟨k', hk'⟩ : ∃ k', (k + 1) % 65536 = k' := ⟨_, rfl⟩
      have hwk := wrap_u16_succ k hk
      rw [hk'] at hwk
      have HK1 : Hid (k' = (r + (L + (j + 1))) % 65536) := by have := HK0.out; show _ = _; omega
      have hk'2 : k' < 65536 := by omega
      have HMS : Hid ((e + 65536 - k') % 65536 < (e + 65536 - k) % 65536) := by have := HK0.out; have := HE.out; show _ < _; omega
      have hi0 : (0 : Int) ≤ (i : Int) := by omega
      have hi1 : (i : Int) < (n : Int) := by omega
      clear hSi hv1 hi' hk'
      go_upto_region 6 with (fail)
      have k0 := cell_regrown c0
      have k1 := cell_regrown c1'
      have k2 := cell_regrown c2
      have k3 := cell_regrown c3
      have k4 := cell_regrown c4
      have k5 := cell_regrown hcell
      clear c0 c1' c2 c3 c4 hcell
      refine wp_region_quiet_below (by kernel_rfl) (by kernel_rfl) ?_
      repeat (quiet_step (first | (go_at_call 27; exact Calls.regrown_of (HPL.out _))))
      refine wpQuiet_nil ?_
      intro w4 hw'
      obtain ⟨⟨dq, osq⟩, rfl⟩ := hw'
      have hb4 := below_regrown wr dq osq
      clear k0 k1 k2 k3 k4 k5
      generalize «Sort».grow (redrawn wr dq) osq = w5 at hb4 ⊢
      have RX5 := Lib.hid (old_below RX.out hb4 (row_lt RX.out))
      have HB5 := Lib.hid (HB.out.trans (hb4.mono (by have := HB.out.size; omega)))
      clear hb4
      go_wp2
      go_roundw
      case rel => exact ⟨j + 1, k', by omega, hk'2, rfl, HK1, RX5, HB5, by omega⟩
      case measure => simp only [intOf, Int.toNat_natCast]; exact HMS.out
end Go.Proofs.Ytdbiledmokldjaa
