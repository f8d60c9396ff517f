/-
  The document's Write of layer 18. Every state that may be, every text.
-/
import Derived.Test.YtebflcpoecolbaaSr
namespace Go.Proofs.Ytebflcpoecolbaa
open Go.RowKit

theorem put1S {w : World} {g : Nat} {t : TypeId} {u0 u1 u2 u3 u4 u5 : Value} (h : w.heap[g]? = some (.cells #[u0, u1, u2, u3, u4, u5] t (0, 0))) (v : Value) : w.setCell ⟨g, 1, none⟩ v = w.setRow g #[u0, v, u2, u3, u4, u5] := by
  rw [setCell_eq_setRow w g 1 _ t (0, 0) v h]
  rfl
abbrev Zsx : Array Value := #[.int .u32 0, .string ⟨#[]⟩, .int .i64 0, .int .i64 0, .bool false, .bool false]
set_option maxRecDepth 100000 in
set_option maxHeartbeats 4000000 in
theorem refwrite_any (x : Sx) (s : List UInt8) (w : World) (hx : OkS x) (hl : x.all.length ≤ 1000000) (hs : s.length ≤ 1000) : Calls Try.prog 25 #[.agg (sxC x), txtV s] w fun e w' => e = .returned (.tuple #[.agg (sxC (writeS x s)), .int .i64 (writeN x s : Int)]) ∧ Below w.heap.size w w' := by
  have hak : x.acked ≤ 1000001 := by have h1 := hx.acked; have h2 := hx.sent; split at h1 <;> omega
  have HRO := Lib.hid (fun w' => refroom_any x w' hx hl hak)
  obtain ⟨w1, hw1⟩ : ∃ w1, (w.alloc (.cells (sxC x) 31)).alloc (.cells Zsx 31) = w1 := ⟨_, rfl⟩
  have HB1 : Hid (Below w.heap.size w w1) := by rw [← hw1]; exact ((Below.refl _ _).alloc (Nat.le_refl _) _).alloc (by simp) _
  have HX0 : Hid (w1.heap[w.heap.size]? = some (.cells (sxC x) 31 (0, 0))) := by rw [← hw1]; exact old_alloc (heap_alloc_new w _) _
  have HX1 : Hid (w1.heap[w.heap.size + 1]? = some (.cells Zsx 31 (0, 0))) := by rw [← hw1]; exact new_at1 w _ _
  have HW := Lib.hid hw1
  clear hw1
  obtain ⟨g, hg⟩ : ∃ g, w.heap.size + 1 = g := ⟨_, rfl⟩
  rw [hg] at HX1
  have HG := Lib.hid hg
  clear hg
  obtain ⟨R, hR⟩ : ∃ R, roomS x = R := ⟨_, rfl⟩
  have hR2 : R ≤ 256 := by rw [← hR]; unfold roomS; split <;> omega
  obtain ⟨n, hn⟩ : ∃ n, writeN x s = n := ⟨_, rfl⟩
  have hnR : n = min s.length R := by rw [← hn, ← hR]; rfl
  have HY : Hid (sxC (writeS x s) = #[.int .u32 x.first, .string ⟨(x.all ++ s.take n).toArray⟩, .int .i64 (x.acked : Int), .int .i64 (x.sent : Int), .bool x.fin, .bool x.fsent]) := by
    show _ = _
    unfold sxC writeS txtV
    rw [hn]
  rw [hR] at HRO
  rw [hn]
  obtain ⟨k, hk⟩ : ∃ k, s.length = k := ⟨_, rfl⟩
  have hts : (⟨s.toArray⟩ : ByteArray).size = k := (txt_size _).trans hk
  have HEX : Hid ((⟨s.toArray⟩ : ByteArray).extract 0 n = ⟨(s.take n).toArray⟩) := by
    apply ByteArray.ext
    simp
  obtain ⟨m, hm⟩ : ∃ m, x.all.length = m := ⟨_, rfl⟩
  have hta : (⟨x.all.toArray⟩ : ByteArray).size = m := (txt_size _).trans hm
  have HTN : Hid ((⟨(s.take n).toArray⟩ : ByteArray).size = n) := (txt_size _).trans (by rw [List.length_take]; omega)
  have HAD : Hid ((⟨x.all.toArray⟩ : ByteArray) ++ ⟨(s.take n).toArray⟩ = ⟨(x.all ++ s.take n).toArray⟩) := txt_add _ _
  rw [hk] at hnR hs
  rw [hm] at hl
  rw [show txtV s = .string ⟨s.toArray⟩ from rfl]
  clear hR hn hk hm hx hak
  go_enter Try.func25, Try.ntmps25
  go_upto_region 1 with (fail)
  change Code.wp _ _ _ _ ((w.alloc (.cells (sxC x) 31)).alloc (.cells Zsx 31))
  rw [HW.out, HG.out]
  clear HW
  go_cut [6] (fun t6 wx => Hid (t6 = .int .i64 (n : Int)) ∧ Hid (wx.heap[w.heap.size]? = some (.cells (sxC x) 31 (0, 0))) ∧ Hid (wx.heap[g]? = some (.cells Zsx 31 (0, 0))) ∧ Hid (Below w.heap.size w wx))
  case first =>
    go_wp2_with (refine wpList_load_row rfl 31 _ rfl w.heap.size rfl 31 (sxC x) (0, 0) _ HX0.out Try.underlying31 rfl (by kernel_rfl) ?_)
    refine (HRO.out _).mono ?_
    rintro e w2 ⟨rfl, hb2⟩
    have HY0 := Lib.hid (old_below HX0.out hb2 (row_lt HX0.out))
    have HY1 := Lib.hid (old_below HX1.out hb2 (row_lt HX1.out))
    have HB2 := Lib.hid (HB1.out.trans (hb2.mono HB1.out.size))
    clear hb2 HX0 HX1 HB1 HRO
    rcases Nat.lt_trichotomy k R with h | h | h
    · have hb : (k : Int) < (R : Int) := by omega
      have he : Hid (n = k) := by show _ = _; omega
      go_wp2
      go_meet
      case rel => exact ⟨Lib.hid (by rw [he.out]), HY0, HY1, HB2⟩
    · subst h
      have he : Hid (n = k) := by show _ = _; omega
      go_wp2
      go_meet
      case rel => exact ⟨Lib.hid (by rw [he.out]), HY0, HY1, HB2⟩
    · have hb : (R : Int) < (k : Int) := by omega
      have he : Hid (n = R) := by show _ = _; omega
      go_wp2
      go_meet
      case rel => exact ⟨Lib.hid (by rw [he.out]), HY0, HY1, HB2⟩
  case rest =>
    clear HX0 HX1 HB1 HRO
    obtain ⟨h6, HY0, HY1, HB2⟩ := hcut
    obtain rfl := h6.out
    clear h6
    rename World => w2
    have hnk : n ≤ k := by omega
    have hnk2 : (n : Int) ≤ (k : Int) := by omega
    have HPUT : Hid (w2.setCell ⟨w.heap.size, 1, none⟩ (.string ⟨(x.all ++ s.take n).toArray⟩) = w2.setRow w.heap.size (sxC (writeS x s))) := by
      show _ = _
      rw [HY.out]
      exact put1S HY0.out _
    have HF1 := Lib.hid (setRow_heap _ _ _ (sxC (writeS x s)) _ _ HY0.out)
    have HF2 := Lib.hid ((setRow_other w2 w.heap.size g (sxC (writeS x s)) (show g ≠ w.heap.size by have := HG.out; omega)).trans HY1.out)
    have HF3 := Lib.hid (below_setRow HB2.out (Nat.le_refl _) (sxC (writeS x s)))
    rw [← HPUT.out] at HF1 HF2 HF3
    obtain ⟨c0, c1, c2, c3, c4, c5⟩ := sx_cells HY0.out
    have hfz := frozen_of_row w2 w.heap.size 1 _ _ HY0.out
    have hex := HEX.out
    have htn := HTN.out
    have had := HAD.out
    clear hnR HY0 HY1 HB2 HPUT
    go_upto_region 2 with (fail)
    go_cut [] (fun wx => Hid (wx.heap[w.heap.size]? = some (.cells (sxC (writeS x s)) 31 (0, 0))) ∧ Hid (wx.heap[g]? = some (.cells Zsx 31 (0, 0))) ∧ Hid (Below w.heap.size w wx))
    case first =>
      go_region
      go_wp2
      go_meet
      case rel => exact ⟨HF1, HF2, Lib.hid (below_drewN' HF3.out 1)⟩
    case rest =>
      clear HF1 HF2 HF3 c0 c1 c2 c3 c4 c5 hfz hex htn had
      obtain ⟨HF1, HF2, HF3⟩ := hcut
      go_wp2_with (first | (refine wpList_load_row rfl 31 _ rfl w.heap.size rfl 31 (sxC (writeS x s)) (0, 0) _ HF1.out Try.underlying31 rfl (by kernel_rfl) ?_) | (refine wpList_store_row rfl 31 _ _ rfl g (sxC (writeS x s)) rfl rfl 31 Zsx HF2.out (by kernel_rfl) rfl (sx_ones _) ?_))
      refine ret_two (g := g) rfl rfl (setRow_heap _ _ _ _ _ _ HF2.out) Try.underlying31 rfl (by kernel_rfl) rfl ?_
      exact ⟨rfl, below_setRow HF3.out (by have := HG.out; omega) _⟩
end Go.Proofs.Ytebflcpoecolbaa
