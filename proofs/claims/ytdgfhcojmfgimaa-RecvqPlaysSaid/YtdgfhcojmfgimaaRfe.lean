/-
  The document's Read of layer 17. Every state, every number.
-/
import Derived.Test.YtdgfhcojmfgimaaRfa
namespace Go.Proofs.Ytdgfhcojmfgimaa
open Go.RowKit

set_option maxRecDepth 100000 in
set_option maxHeartbeats 4000000 in
theorem refread_any (x : Rx) (cs : Array Value) (S : Nat → Prop) (z : Int) (w : World) (hr : Rvs w S cs.toList (rxD x)) (hl : x.data.length ≤ 256) (hg : x.got.length = 256) :
    Calls Try.prog 13 #[.agg cs, .int .i64 z] w fun en w' => ∃ cs' : Array Value, en = .returned (.tuple #[.agg cs', txtV (x.data.take (cutX x z))]) ∧ Rvs w' S cs'.toList (rxD (readX x z)) ∧ Below w.heap.size w w' := by
  obtain ⟨A2, c2, hcs, hrd, hA2, hc2, hm2⟩ := rx_form hr
  obtain ⟨nx, dt, gt, fn, dn⟩ := x
  dsimp only at *
  rw [hg] at hcs hc2
  subst hcs
  obtain ⟨k, hk⟩ : ∃ k, cutX ⟨nx, dt, gt, fn, dn⟩ z = k := ⟨_, rfl⟩
  obtain ⟨m, hm⟩ : ∃ m, dt.length = m := ⟨_, rfl⟩
  have hkd : k = (max 0 (min z m)).toNat := by rw [← hk, ← hm]; rfl
  have hkm : k ≤ m := by omega
  have HRV : Hid (Rv w (fun b => S b ∧ b < w.heap.size) (.slice A2 256 c2) (intsD gt)) := rv_tight (rv_ints.2 ⟨A2, c2, by rw [hg], hrd, hA2, by rw [hg]; exact hc2, hm2⟩)
  have HRX : Hid (readX ⟨nx, dt, gt, fn, dn⟩ z = ⟨nx, dt.drop k, gt, fn, dn⟩) := by show _ = _; unfold readX; rw [hk]
  have hts : (⟨dt.toArray⟩ : ByteArray).size = m := (txt_size dt).trans hm
  rw [hm] at hl
  have HT1 : Hid ((⟨dt.toArray⟩ : ByteArray).extract 0 k = ⟨(dt.take k).toArray⟩) := by
    apply ByteArray.ext
    simp
  have HT2 : Hid ((⟨dt.toArray⟩ : ByteArray).extract k m = ⟨(dt.drop k).toArray⟩) := by
    apply ByteArray.ext
    simp [← hm]
    exact List.take_of_length_le (by simp)
  unfold txtV
  obtain ⟨T, hT⟩ : ∃ T : ByteArray, ⟨dt.toArray⟩ = T := ⟨_, rfl⟩
  rw [hT] at hts HT1 HT2 ⊢
  obtain ⟨w1, hw1⟩ : ∃ w1, (w.alloc (.cells #[.int .u32 nx, .string T, .slice A2 256 c2, .int .i64 fn, .bool dn] 33)).alloc (.cells Zx 33) = w1 := ⟨_, rfl⟩
  have HB1 : Hid (Below w.heap.size w w1) := by rw [← hw1]; exact ((Below.refl _ _).alloc (Nat.le_refl _) _).alloc (by simp) _
  have HX1 : Hid (w1.heap[w.heap.size]? = some (.cells #[.int .u32 nx, .string T, .slice A2 256 c2, .int .i64 fn, .bool dn] 33 (0, 0))) := by rw [← hw1]; exact old_alloc (heap_alloc_new w _) _
  have HZ1 : Hid (w1.heap[w.heap.size + 1]? = some (.cells Zx 33 (0, 0))) := by rw [← hw1]; exact new_at1 w _ _
  have HW := Lib.hid hw1
  have hfz := frozen_of_row _ _ 1 _ _ HX1.out
  obtain ⟨c0, c1, c2', c3, c4⟩ := five_cells HX1.out
  rw [hk]
  have HX2 := Lib.hid (heap_setCell_same _ w.heap.size 1 _ _ (.string (T.extract k m)) HX1.out)
  have HZ2 := Lib.hid ((heap_setCell_other _ ⟨w.heap.size, 1, none⟩ (w.heap.size + 1) (.string (T.extract k m)) (by simp)).trans HZ1.out)
  have HB2 := Lib.hid (HB1.out.setCell (p := ⟨w.heap.size, 1, none⟩) (Nat.le_refl _) (.string (T.extract k m)))
  have HV2 := Lib.hid ((HRV.out.kept HB1.out (fun _ h => h.2)).setCell (p := ⟨w.heap.size, 1, none⟩) (by show ¬ (S w.heap.size ∧ w.heap.size < w.heap.size); omega) (.string (T.extract k m)))
  have hkz : (z < 0 ∧ k = 0) ∨ (0 ≤ z ∧ z ≤ m ∧ z = k) ∨ ((m : Int) < z ∧ k = m) := by omega
  clear hr hrd hA2 hm2 hw1 hk hm hT hkd
  rcases hkz with ⟨hz, rfl⟩ | ⟨h0, hzm, rfl⟩ | ⟨hz, rfl⟩
  · go_enter Try.func13, Try.ntmps13
    go_upto_region 1 with (fail)
    change Code.wp _ _ _ _ ((w.alloc (.cells #[.int .u32 nx, .string T, .slice A2 256 c2, .int .i64 fn, .bool dn] 33)).alloc (.cells Zx 33))
    rw [HW.out]
    clear HW
    go_upto_region 4 with (fail)
    go_wp2_with (first | refine wpList_load_row rfl 33 _ rfl w.heap.size rfl 33 #[.int .u32 nx, .string (T.extract 0 m), .slice A2 256 c2, .int .i64 fn, .bool dn] (0, 0) _ HX2.out Try.underlying33 rfl (by kernel_rfl) ?_ | refine wpList_store_row rfl 33 _ _ rfl (w.heap.size + 1) #[.int .u32 nx, .string (T.extract 0 m), .slice A2 256 c2, .int .i64 fn, .bool dn] rfl rfl 33 Zx HZ2.out (by kernel_rfl) rfl (by simp [Value.oneCell']) ?_)
    refine ret_two (g := w.heap.size + 1) rfl rfl (setRow_heap _ _ _ _ _ _ HZ2.out) Try.underlying33 rfl (by kernel_rfl) rfl ?_
    refine ⟨_, rfl, ?_, below_setRow HB2.out (by omega) _⟩
    rw [HRX.out, HT2.out]
    exact rx_make (x := ⟨nx, dt.drop 0, gt, fn, dn⟩) (by
      have h := (HV2.out.setRow (by show ¬ (S (w.heap.size + 1) ∧ w.heap.size + 1 < w.heap.size); omega) #[.int .u32 nx, .string (T.extract 0 m), .slice A2 256 c2, .int .i64 fn, .bool dn]).wide (S' := S) (fun b h => h.1)
      rwa [HT2.out] at h)
  · have hk0 : (0 : Int) ≤ (k : Int) := by omega
    have hkm1 : (k : Int) ≤ (m : Int) := by omega
    go_enter Try.func13, Try.ntmps13
    go_upto_region 1 with (fail)
    change Code.wp _ _ _ _ ((w.alloc (.cells #[.int .u32 nx, .string T, .slice A2 256 c2, .int .i64 fn, .bool dn] 33)).alloc (.cells Zx 33))
    rw [HW.out]
    clear HW
    go_upto_region 4 with (fail)
    have hif : (if 0 < k then (k : Int) else 0) = (k : Int) := by split <;> omega
    simp only [hif, Int.toNat_natCast]
    clear hif
    go_wp2_with (first | refine wpList_load_row rfl 33 _ rfl w.heap.size rfl 33 #[.int .u32 nx, .string (T.extract k m), .slice A2 256 c2, .int .i64 fn, .bool dn] (0, 0) _ HX2.out Try.underlying33 rfl (by kernel_rfl) ?_ | refine wpList_store_row rfl 33 _ _ rfl (w.heap.size + 1) #[.int .u32 nx, .string (T.extract k m), .slice A2 256 c2, .int .i64 fn, .bool dn] rfl rfl 33 Zx HZ2.out (by kernel_rfl) rfl (by simp [Value.oneCell']) ?_)
    refine ret_two (g := w.heap.size + 1) rfl rfl (setRow_heap _ _ _ _ _ _ HZ2.out) Try.underlying33 rfl (by kernel_rfl) rfl ?_
    refine ⟨_, by rw [← HT1.out]; rfl, ?_, below_setRow HB2.out (by omega) _⟩
    rw [HRX.out, HT2.out]
    exact rx_make (x := ⟨nx, dt.drop k, gt, fn, dn⟩) (by
      have h := (HV2.out.setRow (by show ¬ (S (w.heap.size + 1) ∧ w.heap.size + 1 < w.heap.size); omega) #[.int .u32 nx, .string (T.extract k m), .slice A2 256 c2, .int .i64 fn, .bool dn]).wide (S' := S) (fun b h => h.1)
      rwa [HT2.out] at h)
  · have hz0 : ¬ z < 0 := by omega
    go_enter Try.func13, Try.ntmps13
    go_upto_region 1 with (fail)
    change Code.wp _ _ _ _ ((w.alloc (.cells #[.int .u32 nx, .string T, .slice A2 256 c2, .int .i64 fn, .bool dn] 33)).alloc (.cells Zx 33))
    rw [HW.out]
    clear HW
    go_upto_region 4 with (fail)
    have hif : (if 0 < k then (k : Int) else 0) = (k : Int) := by split <;> omega
    simp only [hif, Int.toNat_natCast]
    clear hif
    generalize T.extract k k = TT at HX2 HZ2 HB2 HV2 HT2 ⊢
    go_wp2_with (first | refine wpList_load_row rfl 33 _ rfl w.heap.size rfl 33 #[.int .u32 nx, .string TT, .slice A2 256 c2, .int .i64 fn, .bool dn] (0, 0) _ HX2.out Try.underlying33 rfl (by kernel_rfl) ?_ | refine wpList_store_row rfl 33 _ _ rfl (w.heap.size + 1) #[.int .u32 nx, .string TT, .slice A2 256 c2, .int .i64 fn, .bool dn] rfl rfl 33 Zx HZ2.out (by kernel_rfl) rfl (by simp [Value.oneCell']) ?_)
    refine ret_two (g := w.heap.size + 1) rfl rfl (setRow_heap _ _ _ _ _ _ HZ2.out) Try.underlying33 rfl (by kernel_rfl) rfl ?_
    refine ⟨_, by rw [← HT1.out]; rfl, ?_, below_setRow HB2.out (by omega) _⟩
    rw [HRX.out, HT2.out]
    exact rx_make (x := ⟨nx, dt.drop k, gt, fn, dn⟩) (by
      have h := (HV2.out.setRow (by show ¬ (S (w.heap.size + 1) ∧ w.heap.size + 1 < w.heap.size); omega) #[.int .u32 nx, .string TT, .slice A2 256 c2, .int .i64 fn, .bool dn]).wide (S' := S) (fun b h => h.1)
      rwa [HT2.out] at h)
end Go.Proofs.Ytdgfhcojmfgimaa
