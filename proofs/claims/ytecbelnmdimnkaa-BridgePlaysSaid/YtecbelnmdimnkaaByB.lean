/-
  The law's frames: what bytes they are, and whether they are few enough. Every slice of frames that is read. No condition.
-/
import Derived.Test.YtecbelnmdimnkaaFrB
namespace Go.Proofs.Ytecbelnmdimnkaa
open Go.RowKit

theorem four_cells {w : World} {b : Nat} {v0 v1 v2 v3 : Value} {t : TypeId} {fr : Nat × Nat} (h : w.heap[b]? = some (.cells #[v0, v1, v2, v3] t fr)) :
    w.cell? ⟨b, 0, none⟩ = some v0 ∧ w.cell? ⟨b, 1, none⟩ = some v1 ∧ w.cell? ⟨b, 2, none⟩ = some v2 ∧ w.cell? ⟨b, 3, none⟩ = some v3 := by
  refine ⟨?_, ?_, ?_, ?_⟩ <;> (rw [cell_of_row _ _ _ _ _ _ h]; rfl)
/-- a frame that comes in at a port -/
structure Fm where
  port : Int
  d : UInt8
  s : UInt8
  raw : List UInt8
def Fm.bytes (f : Fm) : List UInt8 := if f.raw = [] then frB (cardX f.d) (cardX f.s) else f.raw
/-- a frame's cells, the bytes as v -/
def fmA (f : Fm) (v : Value) : Array Value := #[.int .i64 f.port, .int .u8 (f.d.toNat : Int), .int .u8 (f.s.toNat : Int), v]
/-- bytes that are read -/
def ByT (w : World) (v : Value) (l : List UInt8) : Prop := ∃ A c, v = .slice A l.length c ∧ Rd w 0 w.heap.size A (cells l) ∧ (A = none → c = 0) ∧ l.length ≤ c ∧ c ≤ maxLen
theorem ByT.below {w w' : World} {v : Value} {l : List UInt8} {B : Nat} (h : ByT w v l) (hb : Below B w w') (hB : w.heap.size ≤ B := by first | exact Nat.le_refl _ | simp) : ByT w' v l := by
  obtain ⟨A, c, e, h1, h2⟩ := h
  exact ⟨A, c, e, (h1.below hb hB).wide (Nat.le_refl _) hb.size, h2⟩
theorem ByT.own {w : World} {base : Nat} {v : Value} {l : List UInt8} (h : w.ownsRow base 5 1 v l.length (cells l)) : ByT w v l := by
  obtain ⟨A, c, rfl, h1, h2, h3⟩ := ownk_form h
  exact ⟨A, c, rfl, (ownk_rd h).wide (Nat.zero_le _) (Nat.le_refl _), h3, h1, h2⟩
theorem ByT.one {w : World} {v : Value} {l : List UInt8} (h : ByT w v l) : v.oneCell' = true := by
  obtain ⟨A, c, rfl, _⟩ := h
  rfl

set_option maxRecDepth 100000 in
set_option maxHeartbeats 2000000 in
theorem bytes_any (f : Fm) (v : Value) (w : World) (hv : ByT w v f.raw) :
    Calls Try.prog 10 #[.agg (fmA f v)] w fun e w' => ∃ v', e = .returned v' ∧ ((f.raw = [] ∧ w'.ownsRow w.heap.size 5 1 v' 14 (cells f.bytes)) ∨ (f.raw ≠ [] ∧ v' = v)) ∧ Below w.heap.size w w' := by
  have HV := Lib.hid hv
  obtain ⟨A, c, rfl, hrd, hA, hlc, hcm⟩ := hv
  obtain ⟨port, d, s, raw⟩ := f
  simp only at HV hlc hrd ⊢
  obtain ⟨w1, hw1⟩ : ∃ w1, w.alloc (.cells (fmA ⟨port, d, s, raw⟩ (.slice A raw.length c)) 35) = w1 := ⟨_, rfl⟩
  have HB1 : Hid (Below w.heap.size w w1) := by rw [← hw1]; exact (Below.refl _ _).alloc (Nat.le_refl _) _
  have hx1 : w1.heap[w.heap.size]? = some (.cells #[.int .i64 port, .int .u8 (d.toNat : Int), .int .u8 (s.toNat : Int), .slice A raw.length c] 35 (0, 0)) := by rw [← hw1]; exact heap_alloc_new w _
  have HV1 := Lib.hid (HV.out.below HB1.out)
  have HX1 := Lib.hid hx1
  have hW := hw1
  simp only [fmA] at hW ⊢
  have HW := Lib.hid hW
  obtain ⟨c0, c1, c2, c3⟩ := four_cells hx1
  rcases Nat.eq_zero_or_pos raw.length with hn | hn
  · have hr0 : raw = [] := List.length_eq_zero_iff.1 hn
    have HE : Hid (Fm.bytes ⟨port, d, s, raw⟩ = frB (cardX d) (cardX s)) := by show _ = _; unfold Fm.bytes; rw [if_pos hr0]
    rw [hn] at c3 HW HX1 ⊢
    rw [HE.out]
    have HR0 := Lib.hid hr0
    clear hw1 hx1 HV HV1 hrd hA hcm hW hlc hn hr0 HE
    go_enter Try.func10, Try.ntmps10
    go_upto_region 1 with (fail)
    rw [HW.out]
    clear HW
    go_upto_region 4 with (fail)
    clear c0 c1 c2 c3
    apply wp_region_relyG [] (fun _ w' => Below w1.heap.size w1 w') (RL [Is _, Is _, Is _, Is (.agg (macA (cardX d))), Is _, Is _, Is _, Is (.agg (macA (cardX s))), OwnL w1.heap.size 14 (frB (cardX d) (cardX s)), OwnL w1.heap.size 14 (frB (cardX d) (cardX s))]) [false, false, true, false, false, false, false, false, false, false, true, true, true, true, true, true, true, true, true]
    · kernel_rfl
    · kernel_rfl
    · kernel_rfl
    · refine ⟨?_, ?_, ?_, ?_, ?_, ?_, ?_, ?_, ?_, ?_, trivial⟩
      · intro L ev w' hC hL hx K hK
        have e3 : ev (.tmp 3) = _ := hx.base 3 (by kernel_rfl)
        have HK := Lib.hid hK
        have HC := Lib.hid hC
        have HL := Lib.hid hL
        have HX := Lib.hid hx
        have hc := hx.cst
        skip
        clear hx hK hC hL
        unfold Run
        simp [execOp, Upon, go_sem, *]
        exact HK.out _ _ (.inl ⟨Below.refl _ _, by decide⟩) rfl
      · intro L ev w' hC hL hx K hK
        have e1 : ev (.tmp 1) = _ := hx.base 1 (by kernel_rfl)
        have HK := Lib.hid hK
        have HC := Lib.hid hC
        have HL := Lib.hid hL
        have HX := Lib.hid hx
        have hc := hx.cst
        skip
        clear hx hK hC hL
        unfold Run
        simp [execOp, Upon, go_sem, *]
        exact HK.out _ _ (.inl ⟨Below.refl _ _, by decide⟩) rfl
      · intro L ev w' hC hL hx K hK
        have e11 := hx.held 1 _ rfl (by kernel_rfl)
        change ev (.tmp 11) = _ at e11
        have HK := Lib.hid hK
        have HC := Lib.hid hC
        have HL := Lib.hid hL
        have HX := Lib.hid hx
        have hc := hx.cst
        skip
        clear hx hK hC hL
        obtain ⟨c0, c1, c2, c3⟩ := four_cells (old_below HX1.out HC.out (row_lt HX1.out))
        unfold Run
        simp [execOp, Upon, go_sem, *]
        exact HK.out _ _ (.inl ⟨Below.refl _ _, by decide⟩) rfl
      · intro L ev w' hC hL hx K hK
        have e10 := hx.held 0 _ rfl (by kernel_rfl)
        have e12 := hx.held 2 _ rfl (by kernel_rfl)
        change ev (.tmp 10) = _ at e10
        change ev (.tmp 12) = _ at e12
        have HK := Lib.hid hK
        have HC := Lib.hid hC
        have HL := Lib.hid hL
        have HX := Lib.hid hx
        have hc := hx.cst
        skip
        clear hx hK hC hL
        have qf : ev (.tmp 10) = .func (.func 22) #[] #[] := e10
        unfold Run
        simp [execOp, Upon, go_sem, *]
        refine (card_any d w').mono ?_
        rintro e w2 ⟨rfl, hb⟩
        exact ⟨_, rfl, HK.out _ _ (.inl ⟨hb, by decide⟩) rfl⟩
      · intro L ev w' hC hL hx K hK
        have e3 : ev (.tmp 3) = _ := hx.base 3 (by kernel_rfl)
        have HK := Lib.hid hK
        have HC := Lib.hid hC
        have HL := Lib.hid hL
        have HX := Lib.hid hx
        have hc := hx.cst
        skip
        clear hx hK hC hL
        unfold Run
        simp [execOp, Upon, go_sem, *]
        exact HK.out _ _ (.inl ⟨Below.refl _ _, by decide⟩) rfl
      · intro L ev w' hC hL hx K hK
        have e1 : ev (.tmp 1) = _ := hx.base 1 (by kernel_rfl)
        have HK := Lib.hid hK
        have HC := Lib.hid hC
        have HL := Lib.hid hL
        have HX := Lib.hid hx
        have hc := hx.cst
        skip
        clear hx hK hC hL
        unfold Run
        simp [execOp, Upon, go_sem, *]
        exact HK.out _ _ (.inl ⟨Below.refl _ _, by decide⟩) rfl
      · intro L ev w' hC hL hx K hK
        have e15 := hx.held 5 _ rfl (by kernel_rfl)
        change ev (.tmp 15) = _ at e15
        have HK := Lib.hid hK
        have HC := Lib.hid hC
        have HL := Lib.hid hL
        have HX := Lib.hid hx
        have hc := hx.cst
        skip
        clear hx hK hC hL
        obtain ⟨c0, c1, c2, c3⟩ := four_cells (old_below HX1.out HC.out (row_lt HX1.out))
        unfold Run
        simp [execOp, Upon, go_sem, *]
        exact HK.out _ _ (.inl ⟨Below.refl _ _, by decide⟩) rfl
      · intro L ev w' hC hL hx K hK
        have e14 := hx.held 4 _ rfl (by kernel_rfl)
        have e16 := hx.held 6 _ rfl (by kernel_rfl)
        change ev (.tmp 14) = _ at e14
        change ev (.tmp 16) = _ at e16
        have HK := Lib.hid hK
        have HC := Lib.hid hC
        have HL := Lib.hid hL
        have HX := Lib.hid hx
        have hc := hx.cst
        skip
        clear hx hK hC hL
        have qf : ev (.tmp 14) = .func (.func 22) #[] #[] := e14
        unfold Run
        simp [execOp, Upon, go_sem, *]
        refine (card_any s w').mono ?_
        rintro e w2 ⟨rfl, hb⟩
        exact ⟨_, rfl, HK.out _ _ (.inl ⟨hb, by decide⟩) rfl⟩
      · intro L ev w' hC hL hx K hK
        have e13 := hx.held 3 _ rfl (by kernel_rfl)
        have e17 := hx.held 7 _ rfl (by kernel_rfl)
        change ev (.tmp 13) = _ at e13
        change ev (.tmp 17) = _ at e17
        have HK := Lib.hid hK
        have HC := Lib.hid hC
        have HL := Lib.hid hL
        have HX := Lib.hid hx
        have hc := hx.cst
        have hf := hx.fn
        clear hx hK hC hL
        have q13 : ev (.tmp 13) = .agg (macA (cardX d)) := e13
        have q17 : ev (.tmp 17) = .agg (macA (cardX s)) := e17
        unfold Run
        simp [execOp, Upon, go_sem, *]
        refine (frame_any (cardX d) (cardX s) w').mono ?_
        rintro e w2 ⟨A2, c2, rfl, ho, hb⟩
        exact ⟨_, rfl, HK.out _ _ (.inl ⟨hb, by decide⟩) (ownL_of (own_base ho HC.out.size) (by decide))⟩
      · intro L ev w' hC hL hx K hK
        have e18 := hx.held 8 _ rfl (by kernel_rfl)
        change (OwnL w1.heap.size 14 (frB (cardX d) (cardX s)) : Pred) (ev (.tmp 18)) w' at e18
        have HK := Lib.hid hK
        have HC := Lib.hid hC
        have HL := Lib.hid hL
        have HX := Lib.hid hx
        have hc := hx.cst
        skip
        clear hx hK hC hL
        obtain ⟨g3, c3, q18, r18⟩ := e18
        have HR := Lib.hid r18
        clear r18
        unfold Run
        simp [execOp, Upon, go_sem, *]
        exact HK.out _ _ (.inl ⟨Below.refl _ _, by decide⟩) ⟨_, _, rfl, HR.out⟩
    · exact rl_mono ⟨is_mono _, is_mono _, is_mono _, is_mono _, is_mono _, is_mono _, is_mono _, is_mono _, ownL_mono _ _ _, ownL_mono _ _ _, trivial⟩
    · exact fun _ _ _ _ h => h
    · exact fun _ w1 w2 hb h => h.trans (hb.mono h.size)
    · exact Below.refl _ _
    · simp
    intro us wr hG hH
    obtain ⟨-, -, -, -, -, -, -, -, -, h9, -⟩ := hH
    simp only [fillM]
    change (OwnL w1.heap.size 14 (frB (cardX d) (cardX s)) : Pred) (us 2) wr at h9
    generalize us 10 = v10
    generalize us 11 = v11
    generalize us 12 = v12
    generalize us 13 = v13
    generalize us 14 = v14
    generalize us 15 = v15
    generalize us 16 = v16
    generalize us 17 = v17
    generalize us 18 = v18
    generalize us 2 = v2 at h9 ⊢
    obtain ⟨g, c, e9, h9⟩ := h9
    rw [e9]
    have HB : Hid (Below w.heap.size w wr) := HB1.out.trans (hG.mono HB1.out.size)
    have H9 := Lib.hid h9
    clear h9 hG e9
    go_wp2
    go_ret
    exact ⟨_, rfl, .inl ⟨HR0.out, own_base H9.out HB1.out.size⟩, HB.out⟩
  · have hr0 : raw ≠ [] := fun e => by subst e; simp at hn
    have HE : Hid (Fm.bytes ⟨port, d, s, raw⟩ = raw) := by show _ = _; unfold Fm.bytes; rw [if_neg hr0]
    have hn' : (0 : Int) < (raw.length : Int) := by omega
    have hm : (raw.length : Int) ≤ 9223372036854775807 := by unfold maxLen at hcm; omega
    obtain ⟨n, hnn⟩ : ∃ n, raw.length = n := ⟨_, rfl⟩
    have HNN := Lib.hid hnn
    rw [hnn] at c3 HW hn' hm ⊢
    have HR0 : Hid (raw ≠ []) := hr0
    clear hw1 hx1 HV hrd hA hcm hW hlc hn hr0 hnn HX1
    go_enter Try.func10, Try.ntmps10
    go_upto_region 1 with (fail)
    rw [HW.out]
    clear HW
    go_wp2
    go_ret
    exact ⟨_, rfl, .inr ⟨HR0.out, rfl⟩, HB1.out⟩
end Go.Proofs.Ytecbelnmdimnkaa
