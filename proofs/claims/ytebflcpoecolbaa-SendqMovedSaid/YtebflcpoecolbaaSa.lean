/-
  The document's Ack of layer 18. Every state that may be, every number.
-/
import Derived.Test.YtebflcpoecolbaaSw
namespace Go.Proofs.Ytebflcpoecolbaa
open Go.RowKit

theorem put2S {w : World} {g : Nat} {t : TypeId} {u0 u1 u2 u3 u4 u5 : Value} (h : w.heap[g]? = some (.cells #[u0, u1, u2, u3, u4, u5] t (0, 0))) (v : Value) : w.setCell ⟨g, 2, none⟩ v = w.setRow g #[u0, u1, v, u3, u4, u5] := by
  rw [setCell_eq_setRow w g 2 _ t (0, 0) v h]
  rfl
set_option maxRecDepth 100000 in
set_option maxHeartbeats 4000000 in
theorem refack_any (x : Sx) (a : Int) (w : World) (hx : OkS x) (hl : x.all.length ≤ 1000000) (ha : U32 a) : Calls Try.prog 28 #[.agg (sxC x), .int .u32 a] w fun e w' => e = .returned (.tuple #[.agg (sxC (ackS x a)), .int .i64 (ackN x a), .int .i64 (ackE x a)]) ∧ Below w.heap.size w w' := by
  have hak : x.acked ≤ 1000001 := by have h1 := hx.acked; have h2 := hx.sent; split at h1 <;> omega
  have HFL := Lib.hid (fun w' => refflight_any x w' hx hl)
  have hfl2 : flightS x ≤ 1000001 := by have h1 := flight_le hx; have h2 := hx.sent; split at h1 <;> omega
  obtain ⟨w1, hw1⟩ : ∃ w1, (w.alloc (.cells (sxC x) 31)).alloc (.cells Zsx 31) = w1 := ⟨_, rfl⟩
  have HB1 : Hid (Below w.heap.size w w1) := by rw [← hw1]; exact ((Below.refl _ _).alloc (Nat.le_refl _) _).alloc (by simp) _
  have HX0 : Hid (w1.heap[w.heap.size]? = some (.cells (sxC x) 31 (0, 0))) := by rw [← hw1]; exact old_alloc (heap_alloc_new w _) _
  have HX1 : Hid (w1.heap[w.heap.size + 1]? = some (.cells Zsx 31 (0, 0))) := by rw [← hw1]; exact new_at1 w _ _
  have HW := Lib.hid hw1
  clear hw1
  obtain ⟨g, hg⟩ : ∃ g, w.heap.size + 1 = g := ⟨_, rfl⟩
  rw [hg] at HX1
  have HG := Lib.hid hg
  clear hg
  obtain ⟨d, hd⟩ : ∃ d, ackD x a = d := ⟨_, rfl⟩
  have HD : Hid (diffS a (addS x.first (x.acked : Int)) = d) := hd
  have hdl : -2147483648 ≤ d ∧ d < 2147483648 := by rw [← hd]; unfold ackD diffS; omega
  obtain ⟨hd1, hd2⟩ := hdl
  obtain ⟨f, hf⟩ : ∃ f, flightS x = f := ⟨_, rfl⟩
  rw [hf] at HFL hfl2
  have HA1 : Hid (¬ (0 < d ∧ d ≤ f) → ackS x a = x ∧ ackN x a = 0) := fun h => by
    have ho : ackO x a = false := by
      unfold ackO
      rw [hd, hf, ← Bool.decide_and]
      exact decide_eq_false h
    unfold ackS ackN
    rw [ho, if_neg (by decide), if_neg (by decide)]
    exact ⟨rfl, rfl⟩
  have HA2 : Hid (0 < d ∧ d ≤ f → ackS x a = { x with acked := x.acked + d.toNat } ∧ ackN x a = d) := fun h => by
    have ho : ackO x a = true := by
      unfold ackO
      rw [hd, hf, ← Bool.decide_and]
      exact decide_eq_true h
    unfold ackS ackN
    rw [ho, if_pos rfl, if_pos rfl, hd]
    exact ⟨rfl, rfl⟩
  have HAE : Hid (ackE x a = if 0 < d ∧ (f : Int) < d then 1 else 0) := by show _ = _; unfold ackE; rw [hd, hf]
  have HA3 := Lib.hid ha
  have HF3 := Lib.hid hx.first
  clear hd hf hx ha
  go_enter Try.func28, Try.ntmps28
  go_upto_region 1 with (fail)
  change Code.wp _ _ _ _ ((w.alloc (.cells (sxC x) 31)).alloc (.cells Zsx 31))
  rw [HW.out, HG.out]
  clear HW
  obtain ⟨c0, c1, c2, c3, c4, c5⟩ := sx_cells HX0.out
  go_wp2_with fail
  refine (sqrefadd_any _ _ _ HF3.out.1 HF3.out.2 (by omega) (by omega)).mono ?_
  rintro e w2 ⟨rfl, rfl⟩
  go_wp2_with fail
  refine (sqrefdiff_any _ _ _ HA3.out.1 HA3.out.2 (addS_ge _ _) (addS_le _ _)).mono ?_
  rintro e w2 ⟨rfl, rfl⟩
  rw [HD.out]
  clear c0 c1 c2 c3 c4 c5 HD
  by_cases h0 : d ≤ 0
  · have HE := Lib.hid (HA1.out (by omega))
    have HE2 : Hid (ackE x a = 0) := HAE.out.trans (if_neg (by omega))
    go_wp2_with (first | (refine wpList_load_row rfl 31 _ rfl w.heap.size rfl 31 (sxC x) (0, 0) _ HX0.out Try.underlying31 rfl (by kernel_rfl) ?_) | (refine wpList_store_row rfl 31 _ _ rfl g (sxC x) rfl rfl 31 Zsx HX1.out (by kernel_rfl) rfl (sx_ones _) ?_))
    refine ret_three (g := g) rfl rfl (setRow_heap _ _ _ _ _ _ HX1.out) Try.underlying31 rfl (by kernel_rfl) rfl ?_
    exact ⟨by rw [HE.out.1, HE.out.2, HE2.out]; rfl, below_setRow HB1.out (by have := HG.out; omega) _⟩
  · have h0b : 0 < d := by omega
    go_wp2_with (refine wpList_load_row rfl 31 _ rfl w.heap.size rfl 31 (sxC x) (0, 0) _ HX0.out Try.underlying31 rfl (by kernel_rfl) ?_)
    refine (HFL.out _).mono ?_
    rintro e w2 ⟨rfl, hb2⟩
    have HY0 := Lib.hid (old_below HX0.out hb2 (row_lt HX0.out))
    have HY1 := Lib.hid (old_below HX1.out hb2 (row_lt HX1.out))
    have HB2 := Lib.hid (HB1.out.trans (hb2.mono HB1.out.size))
    clear hb2 HX0 HX1 HB1 HFL
    by_cases hfd : (f : Int) < d
    · have HE := Lib.hid (HA1.out (by omega))
      have HE2 : Hid (ackE x a = 1) := HAE.out.trans (if_pos ⟨h0b, hfd⟩)
      go_wp2_with (first | (refine wpList_load_row rfl 31 _ rfl w.heap.size rfl 31 (sxC x) (0, 0) _ HY0.out Try.underlying31 rfl (by kernel_rfl) ?_) | (refine wpList_store_row rfl 31 _ _ rfl g (sxC x) rfl rfl 31 Zsx HY1.out (by kernel_rfl) rfl (sx_ones _) ?_))
      refine ret_three (g := g) rfl rfl (setRow_heap _ _ _ _ _ _ HY1.out) Try.underlying31 rfl (by kernel_rfl) rfl ?_
      exact ⟨by rw [HE.out.1, HE.out.2, HE2.out]; rfl, below_setRow HB2.out (by have := HG.out; omega) _⟩
    · have HE := Lib.hid (HA2.out ⟨h0b, by omega⟩)
      have HE2 : Hid (ackE x a = 0) := HAE.out.trans (if_neg (by omega))
      have hdd : (d.toNat : Int) = d := by omega
      obtain ⟨y, hy⟩ : ∃ y, ({ x with acked := x.acked + d.toNat } : Sx) = y := ⟨_, rfl⟩
      have HYC : Hid (sxC y = #[.int .u32 x.first, .string ⟨x.all.toArray⟩, .int .i64 ((x.acked : Int) + d), .int .i64 (x.sent : Int), .bool x.fin, .bool x.fsent]) := by
        show _ = _
        rw [← hy]
        unfold sxC txtV
        simp only
        rw [show ((x.acked + d.toNat : Nat) : Int) = (x.acked : Int) + d from by omega]
      rw [hy] at HE
      have HPUT : Hid (w2.setCell ⟨w.heap.size, 2, none⟩ (.int .i64 ((x.acked : Int) + d)) = w2.setRow w.heap.size (sxC y)) := by
        show _ = _
        rw [HYC.out]
        exact put2S HY0.out _
      have HF1 := Lib.hid (setRow_heap _ _ _ (sxC y) _ _ HY0.out)
      have HF2 := Lib.hid ((setRow_other w2 w.heap.size g (sxC y) (show g ≠ w.heap.size by have := HG.out; omega)).trans HY1.out)
      have HF9 := Lib.hid (below_setRow HB2.out (Nat.le_refl _) (sxC y))
      obtain ⟨c0, c1, c2, c3, c4, c5⟩ := sx_cells HY0.out
      have hfz := frozen_of_row w2 w.heap.size 2 _ _ HY0.out
      clear hdd hy
      go_upto_region 7 with (fail)
      rw [HPUT.out]
      generalize w2.setRow w.heap.size (sxC y) = w3 at HF1 HF2 HF9 ⊢
      clear c0 c1 c2 c3 c4 c5 hfz HPUT HY0 HY1 HB2 HYC
      go_wp2_with (first | (refine wpList_load_row rfl 31 _ rfl w.heap.size rfl 31 (sxC y) (0, 0) _ HF1.out Try.underlying31 rfl (by kernel_rfl) ?_) | (refine wpList_store_row rfl 31 _ _ rfl g (sxC y) rfl rfl 31 Zsx HF2.out (by kernel_rfl) rfl (sx_ones _) ?_))
      refine ret_three (g := g) rfl rfl (setRow_heap _ _ _ _ _ _ HF2.out) Try.underlying31 rfl (by kernel_rfl) rfl ?_
      exact ⟨by rw [HE.out.1, HE.out.2, HE2.out]; rfl, below_setRow HF9.out (by have := HG.out; omega) _⟩
end Go.Proofs.Ytebflcpoecolbaa
