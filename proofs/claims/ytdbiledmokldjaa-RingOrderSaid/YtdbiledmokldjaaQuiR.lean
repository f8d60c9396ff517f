/-
  ring.Quiet. Every right ring. No condition beyond that.
-/
import Derived.Test.YtdbiledmokldjaaRigR
namespace Go.Proofs.Ytdbiledmokldjaa
open Go.RowKit

theorem ownk_grow {w w' : World} {base k n : Nat} {e : TypeId} {v : Value} {xs : List Value} {row : Option Nat} (h : w.ownsRow base e k v n xs) (hg : w.grownBy w' row) (hr : ∀ g, row = some g → g < base) : w'.ownsRow base e k v n xs := by
  refine ⟨h.1, ?_⟩
  rcases h.2 with h2 | ⟨g, cap, cur, rfl, h1, h2, h3⟩
  · exact .inl h2
  · exact .inr ⟨g, cap, cur, rfl, h1, (hg.block g (row_lt h2) (fun e => by have := hr g e.symm; omega)).trans h2, h3⟩
theorem Stay.grown {lo hi : Nat} {w w' : World} {row : Option Nat} (hg : w.grownBy w' row) (hr : ∀ g, row = some g → hi ≤ g) (hh : hi ≤ w.heap.size) : Stay lo hi w w' := fun j _ h2 => hg.block j (by omega) (fun e => by have := hr j e.symm; omega)
theorem grown_below {w w' w2 : World} {row : Option Nat} (h : w.grownBy w' row) (hb : Below w'.heap.size w' w2) : w.grownBy w2 row :=
  ⟨hb.os.trans h.os, hb.tape.trans h.tape, hb.output.trans h.output, Nat.le_trans h.size hb.size, fun k hk hr => (hb.block k (by have := h.size; omega)).trans (h.block k hk hr)⟩
/-- values that are rows of bytes of the call's own -/
def PrB (base : Nat) (ps : List Fr) (vs : List Value) (w : World) : Prop := vs.length = ps.length ∧ ∀ (i : Nat) (p : Fr), ps[i]? = some p → ∃ v, vs[i]? = some v ∧ w.ownsRow base 5 1 v p.length (cells p)
theorem PrB.grown {base : Nat} {ps : List Fr} {vs us : List Value} {w w' : World} {v : Value} {n b2 : Nat} (h : PrB base ps vs w) (ho : w.ownsRow b2 35 1 v n us) (hg : w.grownBy w' v.ownBlock) : PrB base ps vs w' := ⟨h.1, fun i p hp => by
  obtain ⟨u, h1, h2⟩ := h.2 i p hp
  exact ⟨u, h1, h2.kept hg (own_ne h2 ho (by decide))⟩⟩
theorem PrB.below {base B : Nat} {ps : List Fr} {vs : List Value} {w w' : World} (h : PrB base ps vs w) (hb : Below B w w') (hB : w.heap.size ≤ B) : PrB base ps vs w' := ⟨h.1, fun i p hp => by
  obtain ⟨u, h1, h2⟩ := h.2 i p hp
  exact ⟨u, h1, ownk_below h2 hb hB⟩⟩
theorem PrB.other {base : Nat} {ps : List Fr} {vs : List Value} {w w' : World} (h : PrB base ps vs w) {g : Nat} {C : Array Value} {t : TypeId} {fr : Nat × Nat} (hg : w.heap[g]? = some (.cells C t fr)) (hne : t ≠ 5) (hk : ∀ j, j ≠ g → w'.heap[j]? = w.heap[j]?) : PrB base ps vs w' := ⟨h.1, fun i p hp => by
  obtain ⟨u, h1, h2⟩ := h.2 i p hp
  exact ⟨u, h1, ownk_other h2 hg hne hk⟩⟩
theorem PrB.app {base : Nat} {ps : List Fr} {vs : List Value} {w : World} {v : Value} {f : Fr} (h : PrB base ps vs w) (hv : w.ownsRow base 5 1 v f.length (cells f)) : PrB base (ps ++ [f]) (vs ++ [v]) w := by
  refine ⟨by simp [h.1], fun i p hp => ?_⟩
  rcases Nat.lt_or_ge i ps.length with hi | hi
  · rw [List.getElem?_append_left hi] at hp
    obtain ⟨u, h1, h2⟩ := h.2 i p hp
    exact ⟨u, by rw [List.getElem?_append_left (by rw [h.1]; exact hi)]; exact h1, h2⟩
  · have hi2 : i = ps.length := by
      have := (List.getElem?_eq_some_iff.1 hp).1
      simp at this
      omega
    subst hi2
    rw [List.getElem?_append_right (Nat.le_refl _), Nat.sub_self] at hp
    simp at hp
    subst hp
    exact ⟨v, by rw [← h.1, List.getElem?_append_right (Nat.le_refl _), Nat.sub_self]; rfl, hv⟩
theorem PrB.fr {base : Nat} {ps : List Fr} {vs : List Value} {w : World} (h : PrB base ps vs w) : FrB base w.heap.size vs ps w := ⟨h.1, fun i p hp => by
  obtain ⟨u, h1, h2⟩ := h.2 i p hp
  exact ⟨u, h1, BV.own h2⟩⟩
def quietL (n : Nat) (S : List Fr) (t k : Nat) : List Fr := (List.range k).map fun i => S[(t + i) % n]?.getD []
theorem quietL_succ (n : Nat) (S : List Fr) (t k : Nat) : quietL n S t (k + 1) = quietL n S t k ++ [S[(t + k) % n]?.getD []] := by simp [quietL, List.range_succ]
theorem quietL_length (n : Nat) (S : List Fr) (t k : Nat) : (quietL n S t k).length = k := by simp [quietL]
set_option maxRecDepth 100000 in
set_option maxHeartbeats 4000000 in
theorem quiet_num (n c p t d r D T P lo m hi : Nat) (A : Option Addr) (S : List Fr) (vs : List Value) (w : World) (hs : RgS lo m hi n S w A c vs) (hn : MayN n) (hS : S.length = n) (hsm : ∀ f ∈ S, f.length ≤ 214) (hhi : hi ≤ w.heap.size) (hp : p < 65536) (ht : t < 65536) (hd : d < 65536) (hr : r < 65536) (h1 : d = (r + D) % 65536) (h2 : t = (r + (D + T)) % 65536) (h3 : p = (r + (D + T + P)) % 65536) (hle : D + T + P ≤ n) :
    Calls Try.prog 19 #[.agg #[.slice A n c, .int .u16 (p : Int), .int .u16 (t : Int), .int .u16 (d : Int), .int .u16 (r : Int)]] w fun e w' => ∃ A' c' vs' m' u us, e = .returned (.tuple #[.agg #[.slice A' n c', .int .u16 (p : Int), .int .u16 (p : Int), .int .u16 (p : Int), .int .u16 (p : Int)], u]) ∧ RgS w.heap.size m' w'.heap.size n (List.replicate n []) w' A' c' vs' ∧ w.heap.size ≤ m' ∧ w'.ownsRow w.heap.size 35 1 u P us ∧ FrB w.heap.size w'.heap.size us (quietL n S t P) w' ∧ Below w.heap.size w w' := by
  have hpos := hn.pos
  obtain ⟨hp1, hp2⟩ := hpos
  obtain ⟨N, hN⟩ : ∃ N, w.heap.size = N := ⟨_, rfl⟩
  obtain ⟨w1, hw1⟩ : ∃ w1, (w.alloc (.cells #[.slice A n c, .int .u16 (p : Int), .int .u16 (t : Int), .int .u16 (d : Int), .int .u16 (r : Int)] 29)).alloc (.cells #[.slice none 0 0, .int .u16 0, .int .u16 0, .int .u16 0, .int .u16 0] 29) = w1 := ⟨_, rfl⟩
  have HB1 : Hid (Below N w w1) := by rw [← hw1]; exact ((Below.refl _ _).alloc (by omega) _).alloc (by simp; omega) _
  have RX1 : Hid (w1.heap[N]? = some (.cells #[.slice A n c, .int .u16 (p : Int), .int .u16 (t : Int), .int .u16 (d : Int), .int .u16 (r : Int)] 29 (0, 0))) := by rw [← hw1, ← hN]; exact old_alloc (heap_alloc_new w _) _
  have RY1 : Hid (w1.heap[N + 1]? = some (.cells #[.slice none 0 0, .int .u16 0, .int .u16 0, .int .u16 0, .int .u16 0] 29 (0, 0))) := by rw [← hw1, ← hN]; exact new_at1 w _ _
  obtain ⟨g, c2', cur', e1, -⟩ := ownk_some hs.own (by omega)
  injection e1 with e1 _ e3
  subst e1 e3
  have HCN := Lib.hid (fun w => counts_num n c p t d r D T P (some ⟨g, 0, none⟩) w hn hp ht hd hr h1 h2 h3 hle)
  have HFR := Lib.hid hs.fr
  have HRO := Lib.hid hs.own
  have HGM : Hid (g < m ∧ m ≤ hi) := ⟨hs.lt g rfl, hs.le⟩
  have HN := Lib.hid hn
  have HSL := Lib.hid hS
  have HSM := Lib.hid hsm
  have H3 := Lib.hid h3
  have H2 := Lib.hid h2
  have HHI := Lib.hid hhi
  obtain ⟨i0, hi0, hz0, hz1, hz2⟩ := info_parts info_bs
  have hmk : ∀ w : World, (Instr.makeSlice 27 (.int .i64 (n : Int)) (.int .i64 (n : Int))).run Try.prog w = .ok (.slice (some ⟨w.heap.size, 0, none⟩) n n) (w.alloc (.cells (madeCells #[.slice none 0 0] n) 35)) := fun w =>
    run_make_row' (P := Try.prog) 27 35 (.slice none 0 0) 24 Try.underlying27 info_bs rfl .i64 .i64 n (by omega) (by omega) w
  rw [hN]
  obtain ⟨c0, c1, c2, c3, c4⟩ := five_cells RX1.out
  clear hs hn hS hsm h1 h2 h3 hhi cur'
  go_enter Try.func19, Try.ntmps19
  go_wp2_with (refine wpList_load_row rfl 29 _ rfl N rfl 29 #[.slice (some ⟨g, 0, none⟩) n c, .int .u16 (p : Int), .int .u16 (t : Int), .int .u16 (d : Int), .int .u16 (r : Int)] (0, 0) _ RX1.out Try.underlying29 rfl (by kernel_rfl) ?_)
  clear c0 c1 c2 c3 c4
  refine (HCN.out _).mono ?_
  rintro e w2 ⟨rfl, hb2⟩
  have RX := Lib.hid (old_below RX1.out hb2 (row_lt RX1.out))
  have RY := Lib.hid (old_below RY1.out hb2 (row_lt RY1.out))
  have HBN := Lib.hid (HB1.out.trans (hb2.mono (by have := HB1.out.size; omega)))
  clear hb2 RX1 RY1 HB1 hw1 HCN
  obtain ⟨c0, c1, c2, c3, c4⟩ := five_cells RX.out
  go_wp2
  clear c0 c1 c2 c3 c4
  go_loopw [5, 4] (fun t5 t4 wr => ∃ (j k : Nat) (ul : List Value) (A4 : Option Addr) (c4 : Nat), j ≤ P ∧ k < 65536 ∧ t5 = .int .u16 (k : Int) ∧ t4 = .slice A4 j c4 ∧ Hid (k = (r + (D + T + j)) % 65536) ∧ Hid (wr.heap[N]? = some (.cells #[.slice (some ⟨g, 0, none⟩) n c, .int .u16 (p : Int), .int .u16 (t : Int), .int .u16 (d : Int), .int .u16 (r : Int)] 29 (0, 0))) ∧ Hid (wr.heap[N + 1]? = some (.cells #[.slice none 0 0, .int .u16 0, .int .u16 0, .int .u16 0, .int .u16 0] 29 (0, 0))) ∧ Hid (wr.ownsRow (N + 2) 35 1 (.slice A4 j c4) j ul) ∧ Hid (PrB (N + 2) (quietL n S t j) ul wr) ∧ Hid (Below N w wr)) (fun t5 _ _ => (p + 65536 - (intOf t5).toNat) % 65536)
  case atStart => exact ⟨0, t, [], none, 0, Nat.zero_le _, ht, rfl, rfl, H2, RX, RY, World.ownsRow_nil _ _ _ _, ⟨rfl, fun i p h => by simp [quietL] at h⟩, HBN⟩
  case round =>
    obtain ⟨j, k, ul, A4, c4, hj, hk, rfl, rfl, HK0, RX', RY', HLF, HPR, HBN'⟩ := hrel
    clear RX RY HBN
    have RX := RX'
    have RY := RY'
    have HBN := HBN'
    clear RX' RY' HBN'
    generalize wr = wk at *
    have hz := row_lt RY.out
    by_cases q : j = P
    · have hkp : (k : Int) = (p : Int) := by have := HK0.out; have := H3.out; omega
      subst q
      have RY2 := Lib.hid (old_alloc RY.out (.cells (madeCells #[.slice none 0 0] n) 35))
      have RG2 := Lib.hid (heap_alloc_new wk (.cells (madeCells #[.slice none 0 0] n) 35))
      have HB2 := Lib.hid (HBN.out.alloc (by omega) (.cells (madeCells #[.slice none 0 0] n) 35))
      have HL2 := Lib.hid (ownk_below HLF.out ((Below.refl wk.heap.size wk).alloc (Nat.le_refl _) (.cells (madeCells #[.slice none 0 0] n) 35)) (Nat.le_refl _))
      have HP2 := Lib.hid (HPR.out.below ((Below.refl wk.heap.size wk).alloc (Nat.le_refl _) (.cells (madeCells #[.slice none 0 0] n) 35)) (Nat.le_refl _))
      have RYE := Lib.hid (setRow_heap _ (N + 1) _ (#[.slice (some ⟨wk.heap.size, 0, none⟩) n n, .int .u16 (p : Int), .int .u16 (p : Int), .int .u16 (p : Int), .int .u16 (p : Int)] : Array Value) _ _ RY2.out)
      have RGE := Lib.hid ((setRow_other _ (N + 1) wk.heap.size (#[.slice (some ⟨wk.heap.size, 0, none⟩) n n, .int .u16 (p : Int), .int .u16 (p : Int), .int .u16 (p : Int), .int .u16 (p : Int)] : Array Value) (by omega)).trans RG2.out)
      have HBE := Lib.hid (below_setRow HB2.out (by omega : N ≤ N + 1) (#[.slice (some ⟨wk.heap.size, 0, none⟩) n n, .int .u16 (p : Int), .int .u16 (p : Int), .int .u16 (p : Int), .int .u16 (p : Int)] : Array Value))
      have HLE := Lib.hid (ownk_other HL2.out RY2.out (by decide) (setRow_cells _ _ (#[.slice (some ⟨wk.heap.size, 0, none⟩) n n, .int .u16 (p : Int), .int .u16 (p : Int), .int .u16 (p : Int), .int .u16 (p : Int)] : Array Value)))
      have HPE := Lib.hid (HP2.out.other RY2.out (by decide) (setRow_cells _ _ (#[.slice (some ⟨wk.heap.size, 0, none⟩) n n, .int .u16 (p : Int), .int .u16 (p : Int), .int .u16 (p : Int), .int .u16 (p : Int)] : Array Value)))
      obtain ⟨c0, c1, c2, c3, c4'⟩ := five_cells RX.out
      clear HLF HPR HB2 HL2 HP2 RG2
      go_wp2_with (first | refine wpList_store_row rfl 29 _ _ rfl (N + 1) #[.slice (some ⟨wk.heap.size, 0, none⟩) n n, .int .u16 (p : Int), .int .u16 (p : Int), .int .u16 (p : Int), .int .u16 (p : Int)] rfl rfl 29 _ RY2.out (by kernel_rfl) rfl (ring_ones _ _ _ _ _ _ _) ?_)
      refine ret_two (g := N + 1) rfl rfl RYE.out Try.underlying29 rfl (by kernel_rfl) rfl ?_
      refine ⟨_, _, List.replicate n (.slice none 0 0), wk.heap.size + 1, _, ul, rfl, ⟨made_own _ wk.heap.size N n (.slice none 0 0) 35 RGE.out (by omega) (by unfold maxLen; omega), fun g e => ?_, ?_, FrB.nils n⟩, by omega, ownk_base HLE.out (by omega), HPE.out.fr.wide (by omega) (Nat.le_refl _), HBE.out⟩
      · injection e with e
        injection e with e
        omega
      · simp [World.setRow]
    · have hkp : ¬ (k : Int) = (p : Int) := by have := HK0.out; have := H3.out; omega
      obtain ⟨i, hi'⟩ : ∃ i, k % n = i := ⟨_, rfl⟩
      have hin : i < n := by rw [← hi']; exact mod_lt HN.out _
      obtain ⟨f, hf⟩ : ∃ f, S[i]? = some f := ⟨_, List.getElem?_eq_getElem (by rw [HSL.out]; exact hin)⟩
      have HFS : Hid (f.length ≤ 214) := HSM.out f (List.mem_of_getElem? hf)
      obtain ⟨v, hv1, A1, c1, rfl, hrf, hA1⟩ := HFR.out.2 i f hf
      have HGB := HGM.out
      have HCE := Lib.hid (own_cell (ownk_below HRO.out HBN.out (by omega)) hv1)
      have HRF := Lib.hid (hrf.stay (Stay.of HBN.out (by have := HHI.out; omega)))
      have HA1 := Lib.hid hA1
      have HHK : Hid (hi ≤ wk.heap.size) := by have := HHI.out; have := HBN.out.size; show _ ≤ _; omega
      have HIN : Hid (i < n) := hin
      have HPL := Lib.hid (fun w => place_num n c p t d r k (some ⟨g, 0, none⟩) w hk (by omega))
      rw [hi'] at HPL
      have HQ : Hid (quietL n S t (j + 1) = quietL n S t j ++ [f]) := by
        have e1 : (t + j) % n = i := by rw [← hi', HK0.out, mod_big0 HN.out, H2.out, mod_big HN.out, Nat.add_assoc r]
        show _ = _
        rw [quietL_succ, e1, hf]
        rfl
      obtain ⟨k', hk'⟩ : ∃ k', (k + 1) % 65536 = k' := ⟨_, rfl⟩
      have hwk := wrap_u16_succ k hk
      rw [hk'] at hwk
      have HK1 : Hid (k' = (r + (D + T + (j + 1))) % 65536) := by have := HK0.out; show _ = _; omega
      have hk'2 : k' < 65536 := by omega
      have HMS : Hid ((p + 65536 - k') % 65536 < (p + 65536 - k) % 65536) := by have := HK0.out; have := H3.out; show _ < _; omega
      have HLB : ∀ b, (Value.slice A4 j c4).ownBlock = some b → N + 2 ≤ b ∧ b < wk.heap.size := fun b hb => HLF.out.lt b hb
      have HOB : Hid ((Value.slice A4 j c4).ownBlock ≠ some N) := fun e => by have := HLB N e; omega
      have HOG : Hid ((Value.slice A4 j c4).ownBlock ≠ some g) := fun e => by have := HLB g e; have := HHI.out; omega
      have HOH : Hid (∀ b, (Value.slice A4 j c4).ownBlock = some b → hi ≤ b) := fun b e => by have := HLB b e; have := HHI.out; omega
      have HOL : Hid (∀ b, (Value.slice A4 j c4).ownBlock = some b → b < wk.heap.size) := fun b e => (HLB b e).2
      have HNK : Hid (N + 2 ≤ wk.heap.size) := hz
      have HGL : Hid (g < wk.heap.size) := by have := HHI.out; show _ < _; omega
      have HJS : Hid (j < 16) := by show _ < _; omega
      clear hf hv1 hrf hA1 hi' hk' HLB hin
      obtain ⟨c0, c1x, c2x, c3x, c4x⟩ := five_cells RX.out
      go_upto_region 6 with (fail)
      clear c0 c1x c2x c3x c4x
      apply wp_region_relyL [10] (fun Ld w' => wk.grownBy w' (Value.slice A4 j c4).ownBlock ∧ (Ld 10 = false → w'.ownsRow (N + 2) 35 1 (.slice A4 j c4) j ul)) (RL [Is (.slice A4 j c4), Is _, Is _, Is (.agg #[.slice (some ⟨g, 0, none⟩) n c, .int .u16 (p : Int), .int .u16 (t : Int), .int .u16 (d : Int), .int .u16 (r : Int)]), Is _, Is (.int .i64 ((i : Nat) : Int)), Is (.pointer (some ((⟨g, 0, none⟩ : Addr).add (i * 1)))), Is (.slice A1 f.length c1), OwnR wk.heap.size 5 1 f.length (cells f), fun v w => ∃ g u, v = .slice (some ⟨g, 0, none⟩) 1 1 ∧ w.heap[g]? = some (.cells #[u] 35 (0, 0)) ∧ wk.heap.size ≤ g ∧ w.ownsRow wk.heap.size 5 1 u f.length (cells f), fun v w => ∃ u, w.ownsRow (N + 2) 35 1 v (j + 1) (ul ++ [u]) ∧ w.ownsRow wk.heap.size 5 1 u f.length (cells f)]) [false, false, false, false, false, false, false, false, false, false, false, false, false, false, false, false, false, true, true, true, true, true, true, true, true, true, true, true, false, false, false, false, false, false, false, false, false, false, false, false] _ rfl
      · kernel_rfl
      · kernel_rfl
      · kernel_rfl
      · kernel_rfl
      · refine ⟨?_, ?_, ?_, ?_, ?_, ?_, ?_, ?_, ?_, ?_, ?_, trivial⟩
        · intro L ev w' hC hL hx K hK
          have e4 : ev (.tmp 4) = _ := hx.base 4 (by kernel_rfl)
          have HK := Lib.hid hK
          have HC := Lib.hid hC
          have HL := Lib.hid hL
          have HX := Lib.hid hx
          have hc := hx.cst
          skip
          clear hx hK hC hL
          unfold Run
          simp [execOp, Upon, go_sem, *]
          exact HK.out _ _ (.inl ⟨Below.refl _ _, by decide⟩) rfl
        · intro L ev w' hC hL hx K hK
          have e1 : ev (.tmp 1) = _ := hx.base 1 (by kernel_rfl)
          have HK := Lib.hid hK
          have HC := Lib.hid hC
          have HL := Lib.hid hL
          have HX := Lib.hid hx
          have hc := hx.cst
          skip
          clear hx hK hC hL
          unfold Run
          simp [execOp, Upon, go_sem, *]
          exact HK.out _ _ (.inl ⟨Below.refl _ _, by decide⟩) rfl
        · intro L ev w' hC hL hx K hK
          have e18 := hx.held 1 _ rfl (by kernel_rfl)
          change ev (.tmp 18) = _ at e18
          have HK := Lib.hid hK
          have HC := Lib.hid hC
          have HL := Lib.hid hL
          have HX := Lib.hid hx
          have hc := hx.cst
          skip
          clear hx hK hC hL
          have hrx := (HC.out.1.block N (row_lt RX.out) (fun e => HOB.out e.symm)).trans RX.out
          obtain ⟨c0, c1x, c2x, c3x, c4x⟩ := five_cells hrx
          unfold Run
          simp [execOp, Upon, go_sem, *]
          exact HK.out _ _ (.inl ⟨Below.refl _ _, by decide⟩) rfl
        · intro L ev w' hC hL hx K hK
          have e1 : ev (.tmp 1) = _ := hx.base 1 (by kernel_rfl)
          have HK := Lib.hid hK
          have HC := Lib.hid hC
          have HL := Lib.hid hL
          have HX := Lib.hid hx
          have hc := hx.cst
          skip
          clear hx hK hC hL
          have q1 : ev (.tmp 1) = .pointer (some ⟨N, 0, none⟩) := e1
          have hld := run_loadVar_row (P := Try.prog) w' N 29 29 #[.slice (some ⟨g, 0, none⟩) n c, .int .u16 (p : Int), .int .u16 (t : Int), .int .u16 (d : Int), .int .u16 (r : Int)] (0, 0) _ ((HC.out.1.block N (row_lt RX.out) (fun e => HOB.out e.symm)).trans RX.out) Try.underlying29 rfl (by kernel_rfl)
          unfold Run
          rw [run_loadE 29 _ rfl q1 hld]
          exact HK.out _ _ (.inl ⟨Below.refl _ _, by decide⟩) rfl
        · intro L ev w' hC hL hx K hK
          have e5 : ev (.tmp 5) = _ := hx.base 5 (by kernel_rfl)
          have HK := Lib.hid hK
          have HC := Lib.hid hC
          have HL := Lib.hid hL
          have HX := Lib.hid hx
          have hc := hx.cst
          skip
          clear hx hK hC hL
          unfold Run
          simp [execOp, Upon, go_sem, *]
          exact HK.out _ _ (.inl ⟨Below.refl _ _, by decide⟩) rfl
        · intro L ev w' hC hL hx K hK
          have e20 := hx.held 3 _ rfl (by kernel_rfl)
          have e21 := hx.held 4 _ rfl (by kernel_rfl)
          change ev (.tmp 20) = _ at e20
          change ev (.tmp 21) = _ at e21
          have HK := Lib.hid hK
          have HC := Lib.hid hC
          have HL := Lib.hid hL
          have HX := Lib.hid hx
          have hc := hx.cst
          have hf := hx.fn
          clear hx hK hC hL
          unfold Run
          simp [execOp, Upon, go_sem, *]
          refine (HPL.out w').mono ?_
          rintro e w9 ⟨rfl, hb9⟩
          exact ⟨_, rfl, HK.out _ _ (.inl ⟨hb9, by decide⟩) rfl⟩
        · intro L ev w' hC hL hx K hK
          have e19 := hx.held 2 _ rfl (by kernel_rfl)
          have e22 := hx.held 5 _ rfl (by kernel_rfl)
          change ev (.tmp 19) = _ at e19
          change ev (.tmp 22) = _ at e22
          have HK := Lib.hid hK
          have HC := Lib.hid hC
          have HL := Lib.hid hL
          have HX := Lib.hid hx
          have hc := hx.cst
          skip
          clear hx hK hC hL
          unfold Run
          rw [run_indexE 27 _ _ rfl Try.underlying27 (size := 1) (by kernel_rfl) e19 e22 HIN.out]
          exact HK.out _ _ (.inl ⟨Below.refl _ _, by decide⟩) rfl
        · intro L ev w' hC hL hx K hK
          have e23 := hx.held 6 _ rfl (by kernel_rfl)
          change ev (.tmp 23) = _ at e23
          have HK := Lib.hid hK
          have HC := Lib.hid hC
          have HL := Lib.hid hL
          have HX := Lib.hid hx
          have hc := hx.cst
          skip
          clear hx hK hC hL
          have hcell : w'.cell? ⟨g, i, none⟩ = some (.slice A1 f.length c1) := (World.cell?_of_block (HC.out.1.block g HGL.out (fun e => HOG.out e.symm))).trans HCE.out
          have q1 : ev (.tmp 23) = .pointer (some ⟨g, i, none⟩) := by rw [e23, Addr.add_mid]; simp
          unfold Run
          simp [execOp, Upon, go_sem, *]
          exact HK.out _ _ (.inl ⟨Below.refl _ _, by decide⟩) rfl
        · intro L ev w' hC hL hx K hK
          have e24 := hx.held 7 _ rfl (by kernel_rfl)
          change ev (.tmp 24) = _ at e24
          have HK := Lib.hid hK
          have HC := Lib.hid hC
          have HL := Lib.hid hL
          have HX := Lib.hid hx
          have hc := hx.cst
          have hf := hx.fn
          clear hx hK hC hL
          unfold Run
          simp [execOp, Upon, go_sem, *]
          refine (cloneb_any A1 (cells f) f.length c1 m hi w' (HRF.out.stay (Stay.grown HC.out.1 HOH.out HHK.out)) (Nat.le_trans HHK.out HC.out.1.size) (by rw [cells_length, Nat.mul_one]) (cells_one f) HA1.out (by have := HFS.out; omega)).mono ?_
          rintro e w9 ⟨u9, rfl, ho9, hb9⟩
          exact ⟨_, rfl, HK.out _ _ (.inl ⟨hb9, by decide⟩) (ownk_base ho9 HC.out.1.size)⟩
        · intro L ev w' hC hL hx K hK
          have e25 := hx.held 8 _ rfl (by kernel_rfl)
          change (OwnR wk.heap.size 5 1 f.length (cells f) : Pred) (ev (.tmp 25)) w' at e25
          have HK := Lib.hid hK
          have HC := Lib.hid hC
          have HL := Lib.hid hL
          have HX := Lib.hid hx
          have hc := hx.cst
          skip
          clear hx hK hC hL
          have E25 := Lib.hid e25
          clear e25
          obtain ⟨Af, cf, q25, -⟩ := ownk_form E25.out
          rw [q25] at E25
          unfold Run
          simp [execOp, Upon, go_sem, *]
          exact HK.out _ _ (.inl ⟨(Below.refl _ _).alloc (Nat.le_refl _) _, by decide⟩) ⟨w'.heap.size, _, rfl, heap_alloc_new w' _, HC.out.1.size, ownk_below E25.out ((Below.refl _ _).alloc (Nat.le_refl _) _) (Nat.le_refl _)⟩
        · intro L ev w' hC hL hx K hK
          have e17 := hx.held 0 _ rfl (by kernel_rfl)
          have e26 := hx.held 9 _ rfl (by kernel_rfl)
          change ev (.tmp 17) = _ at e17
          change (fun v w => ∃ g u, v = .slice (some ⟨g, 0, none⟩) 1 1 ∧ w.heap[g]? = some (.cells #[u] 35 (0, 0)) ∧ wk.heap.size ≤ g ∧ w.ownsRow wk.heap.size 5 1 u f.length (cells f) : Pred) (ev (.tmp 26)) w' at e26
          have HK := Lib.hid hK
          have HC := Lib.hid hC
          have HL := Lib.hid hL
          have HX := Lib.hid hx
          have hc := hx.cst
          skip
          clear hx hK hC hL
          obtain ⟨gk, u, q26, hgk, hgl, hou⟩ := e26
          have q17 : ev (.tmp 17) = .slice A4 j c4 := e17
          have hown := HC.out.2 HL.out
          have hu1 : u.oneCell' = true := ownk_one hou
          obtain ⟨v9, w9, hrun, ho9, hg9, -⟩ := append_elem (P := Try.prog) (w := w') (N + 2) 27 27 35 i0 _ 1 24 Try.underlying27 hi0 hz0 hz1 hz2 rfl (by decide) (.slice A4 j c4) j ul hown gk 1 #[u] _ _ hgk rfl (by simpa using hu1) (by unfold maxLen; omega) (by omega) (by have := HC.out.1.size; have := HNK.out; omega)
          have HOU := Lib.hid hou
          have HO9 := Lib.hid ho9
          have HG9 := Lib.hid hg9
          clear hou ho9 hg9 hgk hown
          unfold Run
          rw [run_appendE _ _ 27 rfl q17 q26 hrun]
          refine HK.out _ _ (.inr ⟨⟨HC.out.1.trans HG9.out, fun h => by simp [upd] at h⟩, fun jj hj hlj u hr => ?_⟩) ⟨u, by simpa using HO9.out, ownk_grow HOU.out HG9.out (fun g hg => HOL.out g hg)⟩
          refine rl_sg (S := fun x y => wk.heap.size ≤ x.heap.size ∧ x.grownBy y (Value.slice A4 j c4).ownBlock) (ex := [10]) 0 (by exact ⟨.inr (is_sg _ _), .inr (is_sg _ _), .inr (is_sg _ _), .inr (is_sg _ _), .inr (is_sg _ _), .inr (is_sg _ _), .inr (is_sg _ _), .inr (is_sg _ _), .inr (fun u x y hxy ho => ownk_grow ho hxy.2 (fun g hg => HOL.out g hg)), .inr (fun u x y hxy ⟨g, u', h1, h2, h3, h4⟩ => ⟨g, u', h1, (hxy.2.block g (row_lt h2) (fun e => by have := HOL.out g e.symm; omega)).trans h2, h3, ownk_grow h4 hxy.2 (fun g hg => HOL.out g hg)⟩), .inl rfl, trivial⟩) jj u _ _ ?_ ⟨HC.out.1.size, HG9.out⟩ hr
          simp at hj ⊢
          omega
      · exact rl_mono ⟨is_mono _, is_mono _, is_mono _, is_mono _, is_mono _, is_mono _, is_mono _, is_mono _, ownr_mono _ _ _ _ _, fun _ _ _ hb ⟨g, u, h1, h2, h3, h4⟩ => ⟨g, u, h1, old_below h2 hb (row_lt h2), h3, ownk_below h4 hb (Nat.le_refl _)⟩, fun _ _ _ hb ⟨u, h1, h2⟩ => ⟨u, ownk_below h1 hb (Nat.le_refl _), ownk_below h2 hb (Nat.le_refl _)⟩, trivial⟩
      · exact fun L1 L2 w1 he h => ⟨h.1, fun hh => h.2 (by rw [he 10 (by simp)]; exact hh)⟩
      · exact fun L1 w1 w2 hb h => ⟨grown_below h.1 hb, fun hh => ownk_below (h.2 hh) hb (Nat.le_refl _)⟩
      · exact ⟨World.grownBy.refl _ _, fun _ => HLF.out⟩
      · simp
      intro us wr hG hH
      obtain ⟨-, -, -, -, -, -, -, -, -, -, h10, -⟩ := hH
      simp only [fillM]
      change (fun v w => ∃ u, w.ownsRow (N + 2) 35 1 v (j + 1) (ul ++ [u]) ∧ w.ownsRow wk.heap.size 5 1 u f.length (cells f) : Pred) (us 27) wr at h10
      generalize us 17 = v17
      generalize us 18 = v18
      generalize us 19 = v19
      generalize us 20 = v20
      generalize us 21 = v21
      generalize us 22 = v22
      generalize us 23 = v23
      generalize us 24 = v24
      generalize us 25 = v25
      generalize us 26 = v26
      generalize us 27 = v27 at h10 ⊢
      obtain ⟨hg1, -⟩ := hG
      obtain ⟨u, hu1, hu2⟩ := h10
      have HU1 := Lib.hid hu1
      have HU2 := Lib.hid hu2
      have HG1 := Lib.hid hg1
      clear hu1 hu2 hg1
      refine wp_of_run ?_
      unfold Run
      simp only [execOp, Sem.run_pure, Upon, Act.put]
      have RX5 := Lib.hid ((HG1.out.block N (row_lt RX.out) (fun e => HOB.out e.symm)).trans RX.out)
      have RY5 : Hid (wr.heap[N + 1]? = some (.cells #[.slice none 0 0, .int .u16 0, .int .u16 0, .int .u16 0, .int .u16 0] 29 (0, 0))) := (HG1.out.block (N + 1) (row_lt RY.out) (fun e => by have := (HLF.out.lt _ e.symm).1; omega)).trans RY.out
      obtain ⟨A9, c9, rfl, -⟩ := ownk_form HU1.out
      have HP5 : Hid (PrB (N + 2) (quietL n S t (j + 1)) (ul ++ [u]) wr) := by
        show PrB _ _ _ _
        rw [HQ.out]
        exact (HPR.out.grown HLF.out HG1.out).app (ownk_base HU2.out HNK.out)
      have HB5 : Hid (Below N w wr) := HBN.out.trans ⟨HG1.out.os, HG1.out.tape, HG1.out.output, HG1.out.size, fun b hb => HG1.out.block b (by omega) (fun e => by have := (HLF.out.lt _ e.symm).1; omega)⟩
      clear HG1 HU2 HPR HLF RX RY HBN
      go_wp2
      go_roundw
      case rel => exact ⟨j + 1, k', _, _, _, by omega, hk'2, rfl, rfl, HK1, RX5, RY5, HU1, HP5, HB5⟩
      case measure => simp only [intOf, Int.toNat_natCast]; exact HMS.out
end Go.Proofs.Ytdbiledmokldjaa
