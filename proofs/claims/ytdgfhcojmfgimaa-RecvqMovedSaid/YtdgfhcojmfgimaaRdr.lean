/-
  recvq.Accept once all came. Every state.
-/
import Derived.Test.YtdgfhcojmfgimaaRdp
import Derived.Test.YtdgfhcojmfgimaaRdg
namespace Go.Proofs.Ytdgfhcojmfgimaa
open Go.RowKit

set_option maxRecDepth 100000 in
set_option maxHeartbeats 4000000 in
theorem accept_d (q : Rq) (vD0 vA0 : Value) (S : Nat → Prop) (a : Int) (v : Value) (e : Bool) (w : World) (hr : Rvs w S (rqC q vD0 vA0).toList (rqD q)) (hd0 : q.done = true) (hdl : q.data.length ≤ 1000) (hal : q.ahead.length ≤ 1000) (hap : ∀ t ∈ q.ahead, t.data.length ≤ 1000) :
    Calls Try.prog 14 #[.agg (rqC q vD0 vA0), .int .u32 a, v, .bool e] w fun en w' => ∃ cs' : Array Value, en = .returned (.agg cs') ∧ Rvs w' (fun b => S b ∨ w.heap.size ≤ b) cs'.toList (rqD q) ∧ Below w.heap.size w w' := by
  obtain ⟨w1, hw1⟩ : ∃ w1, (w.alloc (.cells (rqC q vD0 vA0) 29)).alloc (.cells Zrq 29) = w1 := ⟨_, rfl⟩
  have HB : Hid (Below w.heap.size w w1) := by rw [← hw1]; exact ((Below.refl _ _).alloc (Nat.le_refl _) _).alloc (by simp) _
  have HX : Hid (w1.heap[w.heap.size]? = some (.cells (rqC q vD0 vA0) 29 (0, 0))) := by rw [← hw1]; exact old_alloc (heap_alloc_new w _) _
  have HZ : Hid (w1.heap[w.heap.size + 1]? = some (.cells Zrq 29 (0, 0))) := by rw [← hw1]; exact new_at1 w _ _
  have HS1 : Hid (w1.heap.size = w.heap.size + 2) := by show _ = _; rw [← hw1]; simp
  have HW := Lib.hid hw1
  have HR0 := Lib.hid hr
  have HAP := Lib.hid hap
  clear hw1 hr hap
  go_enter Try.func14, Try.ntmps14
  go_upto_region 1 with (fail)
  change Code.wp _ _ _ _ ((w.alloc (.cells (rqC q vD0 vA0) 29)).alloc (.cells Zrq 29))
  rw [HW.out]
  clear HW
  go_wp2_with (refine wpList_load_row rfl 29 _ rfl w.heap.size rfl 29 (rqC q vD0 vA0) (0, 0) _ HX.out Try.underlying29 rfl (by kernel_rfl) ?_)
  refine (qclone_any q (rqC q vD0 vA0) S w1 (rvs_below HR0.out HB.out) (by omega) (by omega) HAP.out).mono ?_
  rintro en w2 ⟨cs2, lo2, rfl, hq2, hlo, hlo2, hb2⟩
  obtain ⟨vD, vA, rfl, hDD, hDl, hAA⟩ := hq2
  have HX2 := Lib.hid (old_below HX.out hb2 (row_lt HX.out))
  have HZ2 := Lib.hid (old_below HZ.out hb2 (row_lt HZ.out))
  have HB2 := Lib.hid (HB.out.trans (hb2.mono HB.out.size))
  have HLO : Hid (w.heap.size + 2 ≤ lo2) := by have := HS1.out; show _ ≤ _; omega
  have HD2 := Lib.hid (ownk_base hDD (b2 := w.heap.size + 2) (by rw [HS1.out]; exact Nat.le_refl _))
  have HDL := Lib.hid hDl
  have HA2 := Lib.hid hAA
  have HLO2 := Lib.hid hlo2
  have HONE : Hid (∀ x : Rq, (rqC x vD vA).all (·.oneCell') = true) := fun x => rqc_ones (own_tb hDD).one hAA.one
  clear hb2 hDD hDl hAA hlo hlo2 HX HZ HB HS1
  obtain ⟨w3, hw3⟩ : ∃ w3, w2.setRow w.heap.size (rqC q vD vA) = w3 := ⟨_, rfl⟩
  have HX3 : Hid (w3.heap[w.heap.size]? = some (.cells (rqC q vD vA) 29 (0, 0))) := by rw [← hw3]; exact setRow_heap _ _ _ _ _ _ HX2.out
  have HZ3 : Hid (w3.heap[w.heap.size + 1]? = some (.cells Zrq 29 (0, 0))) := by rw [← hw3]; exact (setRow_other _ _ _ _ (by omega)).trans HZ2.out
  have HB3 : Hid (Below w.heap.size w w3) := by rw [← hw3]; exact below_setRow HB2.out (Nat.le_refl _) _
  have hk3 : Keeps w2 w3 := by rw [← hw3]; exact Keeps.other HX2.out (by decide) fun j hj => setRow_other _ _ _ _ hj
  have HD3 := Lib.hid (ownb_keeps (.inl rfl) HD2.out hk3)
  have HA3 := Lib.hid (HA2.out.keeps hk3)
  have HL3 : Hid (lo2 ≤ w3.heap.size) := by show _ ≤ _; rw [← hw3]; simp [World.setRow]; exact HLO2.out
  have HW3 := Lib.hid hw3
  clear hw3 hk3
  have c5 : w3.cell? ⟨w.heap.size, 5, none⟩ = some (.bool true) := by rw [cell_of_row _ _ _ _ _ _ HX3.out, ← hd0]; rfl
  go_upto_region 2 with (refine wpList_store_row rfl 29 _ _ rfl w.heap.size (rqC q vD vA) rfl rfl 29 (rqC q vD0 vA0) HX2.out (by kernel_rfl) rfl (HONE.out q) ?_; rw [HW3.out])
  clear HW3 HX2 HZ2 HB2 HD2 HA2 HLO2
  have HONE2 := Lib.hid (HONE.out q)
  have HR3 : Hid (Rvs w3 (fun b => w.heap.size + 2 ≤ b) (rqC q vD vA).toList (rqD q)) := rq_make (own_tb HD3.out).rv (HA3.out.rv.wide fun b hb => Nat.le_trans HLO.out hb)
  go_wp2_with (first | (refine wpList_load_row rfl 29 _ rfl (w.heap.size) rfl 29 (rqC q vD vA) (0, 0) _ HX3.out Try.underlying29 rfl (by kernel_rfl) ?_) | (refine wpList_store_row rfl 29 _ _ rfl (w.heap.size + 1) (rqC q vD vA) rfl rfl 29 (Zrq) HZ3.out (by kernel_rfl) rfl (HONE2.out) ?_))
  (try simp only [Exit.inBlock, Exit.then])
  refine ret_one (g := w.heap.size + 1) rfl rfl (setRow_heap _ _ _ _ _ _ HZ3.out) Try.underlying29 rfl (by kernel_rfl) rfl ?_
  exact ⟨_, rfl, (HR3.out.setRow (by omega) _).wide fun b hb => .inr (by omega), below_setRow HB3.out (by omega) _⟩
end Go.Proofs.Ytdgfhcojmfgimaa
