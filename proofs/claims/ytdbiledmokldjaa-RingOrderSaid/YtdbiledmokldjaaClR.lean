/-
  bytes.Clone, slices.Clone of frames, ring.Clone: rows of the call's own with the same cells. Every ring that is read. No condition.
-/
import Derived.Test.YtdbiledmokldjaaSm
namespace Go.Proofs.Ytdbiledmokldjaa
open Go.RowKit

set_option maxHeartbeats 400000 in
theorem cloneb_any (A : Option Addr) (xs : List Value) (n c lo hi : Nat) (w : World) (h : Rd w lo hi A xs) (hhi : hi ≤ w.heap.size) (hl : xs.length = n * 1) (h1 : ∀ u ∈ xs, u.oneCell' = true) (hA : A = none → c = 0) (hm : n ≤ 100000) :
    Calls Try.prog 29 #[.slice A n c] w fun e w' => ∃ v, e = .returned v ∧ w'.ownsRow w.heap.size 5 1 v n xs ∧ Below w.heap.size w w' := by
  obtain ⟨i0, hi0, hz0, hz1, hz2⟩ := info_parts info_u8
  have HR := Lib.hid h
  have HX := Lib.hid hl
  have HO := Lib.hid h1
  have HHI := Lib.hid hhi
  clear h hl h1 hhi
  have hnil := Lib.run_eql_slice_nil (P := Try.prog) w 35 5 A n c 0 0 Try.underlying35
  rcases A with _ | ad
  · have HL : Hid (xs = [] ∧ n = 0) := by
      have h1 : xs = [] := by
        rcases xs with _ | ⟨u, r⟩
        · rfl
        · obtain ⟨_, e, _⟩ := HR.out 0 u rfl
          cases e
      refine ⟨h1, ?_⟩
      have := HX.out
      rw [h1] at this
      simp at this
      omega
    clear hA
    go_enter Try.func29, Try.ntmps29
    go_wp2
    go_ret
    exact ⟨_, rfl, by rw [HL.out.1, HL.out.2]; exact World.ownsRow_nil _ _ _ _, Below.refl _ _⟩
  · clear hA
    have HOW : Hid ((w.alloc (.cells #[] 5)).ownsRow w.heap.size 5 1 (.slice (some ⟨w.heap.size, 0, none⟩) 0 0) 0 []) := World.ownsRow_lit (base := w.heap.size) (e := 5) (size := 1) w #[] 0 (Nat.le_refl _) (Nat.zero_le _) rfl
    have HRX := Lib.hid (HR.out.alloc HHI.out (.cells #[] 5))
    have hz3 : ((.int .u8 0) : Value).cells.size = 1 := rfl
    go_enter Try.func29, Try.ntmps29
    go_wp2_with (at_builtin; refine wpList_append_rdk (P := Try.prog) rfl _ _ 35 rfl w.heap.size 5 i0 _ 1 1 Try.underlying35 hi0 hz0 hz1 hz2 hz3 (by omega) _ 0 [] rfl HOW.out (some ad) n c xs rfl (fun h => by cases h) HX.out HRX.out HO.out (by unfold maxLen; omega) (by omega) (by simp) ?_)
    intro v2 w2 hown2 hgrow2 _
    have HB : Hid (Below w.heap.size w w2) := ((Below.refl w.heap.size w).alloc (Nat.le_refl _) _).grown hgrow2 (by simp) fun g hg => by simp [Value.ownBlock] at hg; omega
    have HO2 : Hid (w2.ownsRow w.heap.size 5 1 v2 n xs) := by show World.ownsRow _ _ _ _ _ _ _; simpa using hown2
    clear hown2 hgrow2
    go_wp2
    go_ret
    exact ⟨_, rfl, HO2.out, HB.out⟩
theorem cloneb_own (v : Value) (xs : List Value) (n base : Nat) (w : World) (h : w.ownsRow base 5 1 v n xs) (h1 : ∀ u ∈ xs, u.oneCell' = true) (hm : n ≤ 100000) :
    Calls Try.prog 29 #[v] w fun e w' => ∃ v, e = .returned v ∧ w'.ownsRow w.heap.size 5 1 v n xs ∧ Below w.heap.size w w' := by
  obtain ⟨A, c, rfl, _, _, hA⟩ := ownk_form h
  exact cloneb_any A xs n c base w.heap.size w (ownk_rd h) (Nat.le_refl _) h.1 h1 hA hm

set_option maxHeartbeats 400000 in
theorem clonef_any (A : Option Addr) (xs : List Value) (n c lo hi : Nat) (w : World) (h : Rd w lo hi A xs) (hhi : hi ≤ w.heap.size) (hl : xs.length = n * 1) (h1 : ∀ u ∈ xs, u.oneCell' = true) (hA : A = none → c = 0) (hm : n ≤ 100000) :
    Calls Try.prog 28 #[.slice A n c] w fun e w' => ∃ v, e = .returned v ∧ w'.ownsRow w.heap.size 35 1 v n xs ∧ Below w.heap.size w w' := by
  obtain ⟨i0, hi0, hz0, hz1, hz2⟩ := info_parts info_bs
  have HR := Lib.hid h
  have HX := Lib.hid hl
  have HO := Lib.hid h1
  have HHI := Lib.hid hhi
  clear h hl h1 hhi
  have hnil := Lib.run_eql_slice_nil (P := Try.prog) w 27 35 A n c 0 0 Try.underlying27
  rcases A with _ | ad
  · have HL : Hid (xs = [] ∧ n = 0) := by
      have h1 : xs = [] := by
        rcases xs with _ | ⟨u, r⟩
        · rfl
        · obtain ⟨_, e, _⟩ := HR.out 0 u rfl
          cases e
      refine ⟨h1, ?_⟩
      have := HX.out
      rw [h1] at this
      simp at this
      omega
    clear hA
    go_enter Try.func28, Try.ntmps28
    go_wp2
    go_ret
    exact ⟨_, rfl, by rw [HL.out.1, HL.out.2]; exact World.ownsRow_nil _ _ _ _, Below.refl _ _⟩
  · clear hA
    have HOW : Hid ((w.alloc (.cells #[] 35)).ownsRow w.heap.size 35 1 (.slice (some ⟨w.heap.size, 0, none⟩) 0 0) 0 []) := World.ownsRow_lit (base := w.heap.size) (e := 35) (size := 1) w #[] 0 (Nat.le_refl _) (Nat.zero_le _) rfl
    have HRX := Lib.hid (HR.out.alloc HHI.out (.cells #[] 35))
    have hz3 : ((.slice none 0 0) : Value).cells.size = 1 := rfl
    go_enter Try.func28, Try.ntmps28
    go_wp2_with (at_builtin; refine wpList_append_rdk (P := Try.prog) rfl _ _ 27 rfl w.heap.size 35 i0 _ 1 24 Try.underlying27 hi0 hz0 hz1 hz2 hz3 (by omega) _ 0 [] rfl HOW.out (some ad) n c xs rfl (fun h => by cases h) HX.out HRX.out HO.out (by unfold maxLen; omega) (by omega) (by simp) ?_)
    intro v2 w2 hown2 hgrow2 _
    have HB : Hid (Below w.heap.size w w2) := ((Below.refl w.heap.size w).alloc (Nat.le_refl _) _).grown hgrow2 (by simp) fun g hg => by simp [Value.ownBlock] at hg; omega
    have HO2 : Hid (w2.ownsRow w.heap.size 35 1 v2 n xs) := by show World.ownsRow _ _ _ _ _ _ _; simpa using hown2
    clear hown2 hgrow2
    go_wp2
    go_ret
    exact ⟨_, rfl, HO2.out, HB.out⟩
theorem clonef_own (v : Value) (xs : List Value) (n base : Nat) (w : World) (h : w.ownsRow base 35 1 v n xs) (h1 : ∀ u ∈ xs, u.oneCell' = true) (hm : n ≤ 100000) :
    Calls Try.prog 28 #[v] w fun e w' => ∃ v, e = .returned v ∧ w'.ownsRow w.heap.size 35 1 v n xs ∧ Below w.heap.size w w' := by
  obtain ⟨A, c, rfl, _, _, hA⟩ := ownk_form h
  exact clonef_any A xs n c base w.heap.size w (ownk_rd h) (Nat.le_refl _) h.1 h1 hA hm


/-- what lies in the places while they are cloned: the first k are new -/
def MixB (m lo hi k : Nat) (vs : List Value) (S : List Fr) (w : World) : Prop := vs.length = S.length ∧ ∀ (i : Nat) (f : Fr), S[i]? = some f → ∃ v, vs[i]? = some v ∧ (if i < k then BV m w.heap.size f w v else BV lo hi f w v)
theorem MixB.start {m lo hi : Nat} {vs : List Value} {S : List Fr} {w : World} (h : FrB lo hi vs S w) : MixB m lo hi 0 vs S w := ⟨h.1, fun i f hf => by
  obtain ⟨v, h1, h2⟩ := h.2 i f hf
  exact ⟨v, h1, by rw [if_neg (Nat.not_lt_zero _)]; exact h2⟩⟩
theorem MixB.done {m lo hi k : Nat} {vs : List Value} {S : List Fr} {w : World} (h : MixB m lo hi k vs S w) (hk : S.length ≤ k) : FrB m w.heap.size vs S w := ⟨h.1, fun i f hf => by
  obtain ⟨v, h1, h2⟩ := h.2 i f hf
  rw [if_pos (by have := (List.getElem?_eq_some_iff.1 hf).1; omega)] at h2
  exact ⟨v, h1, h2⟩⟩
/-- one place more -/
theorem MixB.step {m lo hi k : Nat} {vs : List Value} {S : List Fr} {w w' : World} {f : Fr} {v : Value} (h : MixB m lo hi k vs S w) (hf : S[k]? = some f) (hv : BV m w'.heap.size f w' v) (hsz : w.heap.size ≤ w'.heap.size)
    (hk1 : Stay lo hi w w') (hk2 : Stay m w.heap.size w w') : MixB m lo hi (k + 1) (vs.set k v) S w' := by
  refine ⟨by simp [h.1], fun i g hg => ?_⟩
  have hi := (List.getElem?_eq_some_iff.1 hg).1
  by_cases hik : k = i
  · subst hik
    rw [hf] at hg
    injection hg with hg
    subst hg
    exact ⟨v, List.getElem?_set_self (by rw [h.1]; exact hi), by rw [if_pos (Nat.lt_succ_self _)]; exact hv⟩
  · obtain ⟨u, h1, h2⟩ := h.2 i g hg
    refine ⟨u, by rw [List.getElem?_set_ne hik]; exact h1, ?_⟩
    by_cases hlt : i < k
    · rw [if_pos hlt] at h2
      rw [if_pos (by omega)]
      exact (h2.stay hk2).wide (Nat.le_refl _) hsz
    · rw [if_neg hlt] at h2
      rw [if_neg (by omega)]
      exact h2.stay hk1
theorem MixB.below {m lo hi k : Nat} {vs : List Value} {S : List Fr} {w w' : World} (h : MixB m lo hi k vs S w) (hb : Below w.heap.size w w') (hh : hi ≤ w.heap.size) : MixB m lo hi k vs S w' := ⟨h.1, fun i f hf => by
  obtain ⟨v, h1, h2⟩ := h.2 i f hf
  refine ⟨v, h1, ?_⟩
  split
  · rename_i hlt
    rw [if_pos hlt] at h2
    exact (h2.stay (Stay.of hb (Nat.le_refl _))).wide (Nat.le_refl _) hb.size
  · rename_i hlt
    rw [if_neg hlt] at h2
    exact h2.stay (Stay.of hb hh)⟩

set_option maxRecDepth 100000 in
set_option maxHeartbeats 2000000 in
theorem clone_num (n c p t d r lo m hi : Nat) (A : Option Addr) (S : List Fr) (vs : List Value) (w : World) (hs : RgS lo m hi n S w A c vs) (hn : MayN n) (hS : S.length = n) (hsm : ∀ f ∈ S, f.length ≤ 214) (hhi : hi ≤ w.heap.size) :
    Calls Try.prog 14 #[.agg #[.slice A n c, .int .u16 (p : Int), .int .u16 (t : Int), .int .u16 (d : Int), .int .u16 (r : Int)]] w fun e w' => ∃ A' c' vs' m', e = .returned (.agg #[.slice A' n c', .int .u16 (p : Int), .int .u16 (t : Int), .int .u16 (d : Int), .int .u16 (r : Int)]) ∧ RgS w.heap.size m' w'.heap.size n S w' A' c' vs' ∧ w.heap.size ≤ m' ∧ Below w.heap.size w w' := by
  have hpos := hn.pos
  obtain ⟨hp1, hp2⟩ := hpos
  obtain ⟨N, hN⟩ : ∃ N, w.heap.size = N := ⟨_, rfl⟩
  have HFR := Lib.hid hs.fr
  have HOW := Lib.hid hs.own
  have HLE := Lib.hid hs.le
  have HSL := Lib.hid hS
  have HSM := Lib.hid hsm
  have HHI := Lib.hid hhi
  have HN := Lib.hid hn
  have hAn := own_none hs.own
  clear hs hS hsm hhi hn
  obtain ⟨w1, hw1⟩ : ∃ w1, (w.alloc (.cells #[.slice A n c, .int .u16 (p : Int), .int .u16 (t : Int), .int .u16 (d : Int), .int .u16 (r : Int)] 29)).alloc (.cells #[.slice none 0 0, .int .u16 0, .int .u16 0, .int .u16 0, .int .u16 0] 29) = w1 := ⟨_, rfl⟩
  have HB1 : Hid (Below N w w1) := by rw [← hw1]; exact ((Below.refl _ _).alloc (by omega) _).alloc (by simp; omega) _
  have HZ1 : Hid (w1.heap.size = N + 2) := by rw [← hw1]; show _ = _; simp [hN]
  have RX1 : Hid (w1.heap[N]? = some (.cells #[.slice A n c, .int .u16 (p : Int), .int .u16 (t : Int), .int .u16 (d : Int), .int .u16 (r : Int)] 29 (0, 0))) := by rw [← hw1, ← hN]; exact old_alloc (heap_alloc_new w _) _
  have RY1 : Hid (w1.heap[N + 1]? = some (.cells #[.slice none 0 0, .int .u16 0, .int .u16 0, .int .u16 0, .int .u16 0] 29 (0, 0))) := by rw [← hw1, ← hN]; exact new_at1 w _ _
  rw [hN]
  have HCF := Lib.hid (clonef_any A vs n c lo w1.heap.size w1 (ownk_rd (ownk_below HOW.out HB1.out (Nat.le_of_eq hN))) (Nat.le_refl _) HOW.out.1 HFR.out.ones hAn (by omega))
  obtain ⟨c0, c1, c2', c3, c4⟩ := five_cells RX1.out
  go_enter Try.func14, Try.ntmps14
  go_wp2_with fail
  clear c0 c1 c2' c3 c4
  refine HCF.out.mono ?_
  rintro e w2 ⟨v, rfl, ho, hb⟩
  obtain ⟨g, c2, cur2, rfl, hg1, -, hnc2, -⟩ := ownk_some ho (by omega)
  have hz1 := HZ1.out
  have RX2 := Lib.hid (old_below RX1.out hb (by omega))
  have RY2 := Lib.hid (old_below RY1.out hb (by omega))
  have HO2 := Lib.hid ho
  have HB2 := Lib.hid (HB1.out.trans (hb.mono (by omega)))
  have HS2 : Hid (N + 2 ≤ w2.heap.size) := by show _ ≤ _; have := hb.size; omega
  clear ho hb hw1 HCF cur2
  obtain ⟨c0, c1, c2', c3, c4⟩ := five_cells RX2.out
  have fz := frozen_of_row w2 N 0 _ _ RX2.out
  go_upto_region 2 with (fail)
  clear c0 c1 c2' c3 c4 fz
  have HG : Hid (N + 2 ≤ g) := by show _ ≤ _; omega
  have RX3 : Hid ((w2.setCell ⟨N, 0, none⟩ (.slice (some ⟨g, 0, none⟩) n c2)).heap[N]? = some (.cells #[.slice (some ⟨g, 0, none⟩) n c2, .int .u16 (p : Int), .int .u16 (t : Int), .int .u16 (d : Int), .int .u16 (r : Int)] 29 (0, 0))) := heap_setCell_same w2 N 0 _ _ (.slice (some ⟨g, 0, none⟩) n c2) RX2.out
  have RY3 : Hid ((w2.setCell ⟨N, 0, none⟩ (.slice (some ⟨g, 0, none⟩) n c2)).heap[N + 1]? = some (.cells #[.slice none 0 0, .int .u16 0, .int .u16 0, .int .u16 0, .int .u16 0] 29 (0, 0))) := (heap_setCell_other w2 _ _ _ (by simp)).trans RY2.out
  have HO3 : Hid ((w2.setCell ⟨N, 0, none⟩ (.slice (some ⟨g, 0, none⟩) n c2)).ownsRow N 35 1 (.slice (some ⟨g, 0, none⟩) n c2) n vs) := ownk_base (ownk_setCell_other HO2.out (fun b hb => by simp [Value.ownBlock] at hb; subst hb; have := HG.out; show _ ≠ N; omega) _) (by omega)
  have HM3 : Hid (MixB (g + 1) m hi 0 vs S (w2.setCell ⟨N, 0, none⟩ (.slice (some ⟨g, 0, none⟩) n c2))) := MixB.start (HFR.out.stay (fun j h1 h2 => (heap_setCell_other w2 ⟨N, 0, none⟩ j _ (by have := HHI.out; show _ ≠ N; omega)).trans (HB2.out.block j (by have := HHI.out; omega))))
  have HB3 : Hid (Below N w (w2.setCell ⟨N, 0, none⟩ (.slice (some ⟨g, 0, none⟩) n c2))) := HB2.out.setCell (by simp only; omega) _
  generalize w2.setCell ⟨N, 0, none⟩ (.slice (some ⟨g, 0, none⟩) n c2) = w3 at RX3 RY3 HO3 HM3 HB3 ⊢
  clear RX2 RY2 HO2 HB2 HS2
  obtain ⟨c0, c1, c2', c3, c4⟩ := five_cells RX3.out
  go_wp2
  clear c0 c1 c2' c3 c4
  go_loopw [12] (fun t12 wr => ∃ (k : Nat) (vs' : List Value), k ≤ n ∧ t12 = .int .i64 (k : Int) ∧ Hid (wr.heap[N]? = some (.cells #[.slice (some ⟨g, 0, none⟩) n c2, .int .u16 (p : Int), .int .u16 (t : Int), .int .u16 (d : Int), .int .u16 (r : Int)] 29 (0, 0))) ∧ Hid (wr.heap[N + 1]? = some (.cells #[.slice none 0 0, .int .u16 0, .int .u16 0, .int .u16 0, .int .u16 0] 29 (0, 0))) ∧ Hid (wr.ownsRow N 35 1 (.slice (some ⟨g, 0, none⟩) n c2) n vs') ∧ Hid (MixB (g + 1) m hi k vs' S wr) ∧ Hid (Below N w wr)) (fun t12 _ => n - (intOf t12).toNat)
  case atStart => exact ⟨0, vs, Nat.zero_le _, rfl, RX3, RY3, HO3, HM3, HB3⟩
  case round =>
    obtain ⟨k, vs', hk, rfl, RX, RY, HROW, HMIX, HBK⟩ := hrel
    generalize wr = wk at *
    clear RX3 RY3 HO3 HM3 HB3
    by_cases hlt : k < n
    · obtain ⟨f, hf⟩ : ∃ f, S[k]? = some f := ⟨_, List.getElem?_eq_getElem (by rw [HSL.out]; exact hlt)⟩
      obtain ⟨v, hv1, hv2⟩ := HMIX.out.2 k f hf
      rw [if_neg (Nat.lt_irrefl _)] at hv2
      obtain ⟨A1, c1, rfl, hrf, hA1⟩ := hv2
      have HRF := Lib.hid hrf
      have HA1 := Lib.hid hA1
      have HF := Lib.hid hf
      have HFS : Hid (f.length ≤ 214) := HSM.out f (List.mem_of_getElem? hf)
      have HHK : Hid (hi ≤ wk.heap.size) := Nat.le_trans HHI.out HBK.out.size
      have HKN : Hid (k < n) := hlt
      have HV1 := Lib.hid hv1
      have hcell := own_cell HROW.out hv1
      clear hf hv1 hrf hA1
      go_wp2
      clear hcell
      apply wp_region_relyL [] (fun _ w' => Below wk.heap.size wk w') (RL [Is _, Is _, Is _, Is _, OwnR wk.heap.size 5 1 f.length (cells f), Is (.pointer (some ((⟨g, 0, none⟩ : Addr).add (k * 1))))]) [false, false, false, false, false, false, false, false, false, false, false, false, false, false, false, false, false, true, true, true, true, true, true, false, false] _ rfl
      · kernel_rfl
      · kernel_rfl
      · kernel_rfl
      · kernel_rfl
      · refine ⟨?_, ?_, ?_, ?_, ?_, ?_, trivial⟩
        · intro L ev w' hC hL hx K hK
          have e1 : ev (.tmp 1) = _ := hx.base 1 (by kernel_rfl)
          have HK := Lib.hid hK
          have HC := Lib.hid hC
          have HL := Lib.hid hL
          have HX := Lib.hid hx
          have hc := hx.cst
          skip
          clear hx hK hC hL
          unfold Run
          simp [execOp, Upon, go_sem, *]
          exact HK.out _ _ (.inl ⟨Below.refl _ _, by decide⟩) rfl
        · intro L ev w' hC hL hx K hK
          have e17 := hx.held 0 _ rfl (by kernel_rfl)
          change ev (.tmp 17) = _ at e17
          have HK := Lib.hid hK
          have HC := Lib.hid hC
          have HL := Lib.hid hL
          have HX := Lib.hid hx
          have hc := hx.cst
          skip
          clear hx hK hC hL
          obtain ⟨c0, c1, c2, c3, c4⟩ := five_cells (old_below RX.out HC.out (row_lt RX.out))
          unfold Run
          simp [execOp, Upon, go_sem, *]
          exact HK.out _ _ (.inl ⟨Below.refl _ _, by decide⟩) rfl
        · intro L ev w' hC hL hx K hK
          have e3 : ev (.tmp 3) = _ := hx.base 3 (by kernel_rfl)
          have HK := Lib.hid hK
          have HC := Lib.hid hC
          have HL := Lib.hid hL
          have HX := Lib.hid hx
          have hc := hx.cst
          skip
          clear hx hK hC hL
          unfold Run
          simp [execOp, Upon, go_sem, *]
          exact HK.out _ _ (.inl ⟨Below.refl _ _, by decide⟩) rfl
        · intro L ev w' hC hL hx K hK
          have e4 : ev (.tmp 4) = _ := hx.base 4 (by kernel_rfl)
          have HK := Lib.hid hK
          have HC := Lib.hid hC
          have HL := Lib.hid hL
          have HX := Lib.hid hx
          have hc := hx.cst
          skip
          clear hx hK hC hL
          unfold Run
          simp [execOp, Upon, go_sem, *]
          exact HK.out _ _ (.inl ⟨Below.refl _ _, by decide⟩) rfl
        · intro L ev w' hC hL hx K hK
          have e20 := hx.held 3 _ rfl (by kernel_rfl)
          change ev (.tmp 20) = _ at e20
          have HK := Lib.hid hK
          have HC := Lib.hid hC
          have HL := Lib.hid hL
          have HX := Lib.hid hx
          have hc := hx.cst
          have hf := hx.fn
          clear hx hK hC hL
          unfold Run
          simp [execOp, Upon, go_sem, *]
          refine (cloneb_any A1 (cells f) f.length c1 m hi w' (HRF.out.below HC.out HHK.out) (by have := HC.out.size; have := HHK.out; omega) (by rw [cells_length, Nat.mul_one]) (cells_one f) HA1.out (by have := HFS.out; omega)).mono ?_
          rintro e w9 ⟨u9, rfl, ho9, hb9⟩
          exact ⟨_, rfl, HK.out _ _ (.inl ⟨hb9, by decide⟩) (ownk_base ho9 HC.out.size)⟩
        · intro L ev w' hC hL hx K hK
          have e18 := hx.held 1 _ rfl (by kernel_rfl)
          have e19 := hx.held 2 _ rfl (by kernel_rfl)
          change ev (.tmp 18) = _ at e18
          change ev (.tmp 19) = _ at e19
          have HK := Lib.hid hK
          have HC := Lib.hid hC
          have HL := Lib.hid hL
          have HX := Lib.hid hx
          have hc := hx.cst
          skip
          clear hx hK hC hL
          unfold Run
          rw [run_indexE 27 _ _ rfl Try.underlying27 (size := 1) (by kernel_rfl) e18 e19 HKN.out]
          exact HK.out _ _ (.inl ⟨Below.refl _ _, by decide⟩) rfl
      · exact rl_mono ⟨is_mono _, is_mono _, is_mono _, is_mono _, ownr_mono _ _ _ _ _, is_mono _, trivial⟩
      · exact fun _ _ _ _ h => h
      · exact fun _ _ _ hb h => h.trans (hb.mono h.size)
      · exact Below.refl _ _
      · simp
      intro us wr hG hH
      obtain ⟨-, -, -, -, h4, h5, -⟩ := hH
      simp only [fillM]
      change (OwnR wk.heap.size 5 1 f.length (cells f) : Pred) (us 21) wr at h4
      change us 22 = _ at h5
      rw [h5]
      clear h5
      generalize us 17 = v17
      generalize us 18 = v18
      generalize us 19 = v19
      generalize us 20 = v20
      generalize us 21 = v21 at h4 ⊢
      have HO4 := Lib.hid h4
      have HGB := Lib.hid hG
      clear h4 hG
      obtain ⟨Af, cf, rfl, -⟩ := ownk_form HO4.out
      have hrw := ownk_below HROW.out HGB.out (Nat.le_refl _)
      obtain ⟨cur, hg4, -, hnc, -, hcs, -⟩ := own_at0 hrw (by omega)
      have hsv := run_store_cell (P := Try.prog) wr g k 35 (.slice Af f.length cf) (.slice A1 f.length c1) (by kernel_rfl) rfl rfl (own_cell hrw HV1.out) (frozen_of_row wr g k cur _ hg4)
      rw [show ((⟨g, 0, none⟩ : Addr).add (k * 1)) = ⟨g, k, none⟩ from by rw [Addr.add_mid]; simp]
      refine wp_of_run ?_
      unfold Run
      rw [run_storeE 35 _ _ rfl rfl rfl hsv]
      simp only [Upon, Act.put]
      have hgN := HG.out
      have RX5 : Hid ((wr.setCell ⟨g, k, none⟩ (.slice Af f.length cf)).heap[N]? = some (.cells #[.slice (some ⟨g, 0, none⟩) n c2, .int .u16 (p : Int), .int .u16 (t : Int), .int .u16 (d : Int), .int .u16 (r : Int)] 29 (0, 0))) := (heap_setCell_other wr _ _ _ (by show N ≠ g; omega)).trans (old_below RX.out HGB.out (row_lt RX.out))
      have RY5 : Hid ((wr.setCell ⟨g, k, none⟩ (.slice Af f.length cf)).heap[N + 1]? = some (.cells #[.slice none 0 0, .int .u16 0, .int .u16 0, .int .u16 0, .int .u16 0] 29 (0, 0))) := (heap_setCell_other wr _ _ _ (by show N + 1 ≠ g; omega)).trans (old_below RY.out HGB.out (row_lt RY.out))
      have HO5 : Hid ((wr.setCell ⟨g, k, none⟩ (.slice Af f.length cf)).ownsRow N 35 1 (.slice (some ⟨g, 0, none⟩) n c2) n (vs'.set k (.slice Af f.length cf))) := own_put hrw HKN.out rfl
      have hgk : g < wk.heap.size := (HROW.out.lt g rfl).2
      have HM5 : Hid (MixB (g + 1) m hi (k + 1) (vs'.set k (.slice Af f.length cf)) S (wr.setCell ⟨g, k, none⟩ (.slice Af f.length cf))) := by
        refine HMIX.out.step HF.out ?_ ?_ ?_ ?_
        · refine ((BV.own HO4.out).stay (Stay.cell wr (by show g < wk.heap.size ∨ _; omega) _)).wide (by omega) ?_
          simp
        · simp only [World.size_setCell]
          exact HGB.out.size
        · exact (Stay.of HGB.out HHK.out).trans (Stay.cell wr (by show g < m ∨ hi ≤ g; have := HHI.out; omega) _)
        · exact (Stay.of HGB.out (Nat.le_refl _)).trans (Stay.cell wr (by show g < g + 1 ∨ _; omega) _)
      have HB5 : Hid (Below N w (wr.setCell ⟨g, k, none⟩ (.slice Af f.length cf))) := (HBK.out.trans (HGB.out.mono (by have := HBK.out.size; omega))).setCell (by show N ≤ g; omega) _
      generalize wr.setCell ⟨g, k, none⟩ (.slice Af f.length cf) = w9 at RX5 RY5 HO5 HM5 HB5 ⊢
      clear hsv hg4 hcs hrw
      go_wp2
      go_roundw
      case rel => exact ⟨k + 1, _, by omega, by go_num, RX5, RY5, HO5, HM5, HB5⟩
      case measure => simp [intOf]; omega
    · obtain rfl : n = k := by omega
      have hfr := HMIX.out.done (by rw [HSL.out]; exact Nat.le_refl _)
      have hgN := HG.out
      have hgk : g < wk.heap.size := (HROW.out.lt g rfl).2
      have RY6 : Hid ((wk.setRow (N + 1) #[.slice (some ⟨g, 0, none⟩) n c2, .int .u16 (p : Int), .int .u16 (t : Int), .int .u16 (d : Int), .int .u16 (r : Int)]).heap[N + 1]? = some (.cells #[.slice (some ⟨g, 0, none⟩) n c2, .int .u16 (p : Int), .int .u16 (t : Int), .int .u16 (d : Int), .int .u16 (r : Int)] 29 (0, 0))) := setRow_heap _ _ _ _ _ _ RY.out
      have HO6 : Hid (RgS N (g + 1) (wk.setRow (N + 1) #[.slice (some ⟨g, 0, none⟩) n c2, .int .u16 (p : Int), .int .u16 (t : Int), .int .u16 (d : Int), .int .u16 (r : Int)]).heap.size n S (wk.setRow (N + 1) #[.slice (some ⟨g, 0, none⟩) n c2, .int .u16 (p : Int), .int .u16 (t : Int), .int .u16 (d : Int), .int .u16 (r : Int)]) (some ⟨g, 0, none⟩) c2 vs') := by
        refine ⟨ownk_other HROW.out RY.out (by decide) (setRow_cells _ _ _), fun g' e => ?_, ?_, ?_⟩
        · injection e with e
          injection e with e
          omega
        · simp [World.setRow]; omega
        · refine (hfr.stay (Stay.row wk (by omega) _)).wide (Nat.le_refl _) ?_
          simp [World.setRow]
      have HB6 : Hid (Below N w (wk.setRow (N + 1) #[.slice (some ⟨g, 0, none⟩) n c2, .int .u16 (p : Int), .int .u16 (t : Int), .int .u16 (d : Int), .int .u16 (r : Int)])) := below_setRow HBK.out (by omega) _
      obtain ⟨c0, c1, c2', c3, c4⟩ := five_cells RX.out
      go_wp2_with (first | refine wpList_load_row rfl 29 _ rfl N rfl 29 #[.slice (some ⟨g, 0, none⟩) n c2, .int .u16 (p : Int), .int .u16 (t : Int), .int .u16 (d : Int), .int .u16 (r : Int)] (0, 0) _ RX.out Try.underlying29 rfl (by kernel_rfl) ?_ | refine wpList_store_row rfl 29 _ _ rfl (N + 1) #[.slice (some ⟨g, 0, none⟩) n c2, .int .u16 (p : Int), .int .u16 (t : Int), .int .u16 (d : Int), .int .u16 (r : Int)] rfl rfl 29 _ RY.out (by kernel_rfl) rfl (ring_ones _ _ _ _ _ _ _) ?_)
      refine ret_one (g := N + 1) rfl rfl RY6.out Try.underlying29 rfl (by kernel_rfl) rfl ?_
      exact ⟨_, _, _, _, rfl, HO6.out, by omega, HB6.out⟩
end Go.Proofs.Ytdbiledmokldjaa
