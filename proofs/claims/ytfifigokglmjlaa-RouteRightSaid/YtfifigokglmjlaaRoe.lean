/-
  route.place: the function value that it looks with, slices.IndexFunc. Every slice of routes, every address, every number of bits.
-/
import Derived.Test.YtfifigokglmjlaaRob
import Derived.Test.YtfifigokglmjlaaRfd
namespace Go.Proofs.Ytfifigokglmjlaa
open Go.RowKit

/-- the place of the first, -1 if there is none -/
def idxV {α : Type} (f : α → Bool) (l : List α) : Int := match l.findIdx? f with | some i => (i : Int) | none => -1
set_option maxRecDepth 100000 in
set_option maxHeartbeats 4000000 in
theorem place1_any (r : Ro) (net : Ip) (bits : Int) (b d : Nat) (w : World) (hg : w.heap[b]? = some (.cells (ipA net) 26 (0, 0))) (hg2 : w.heap[d]? = some (.cells #[.int .i64 bits] 3 (0, 0))) :
    Calls Try.prog 31 #[.agg (roA r), .pointer (some ⟨b, 0, none⟩), .pointer (some ⟨d, 0, none⟩)] w fun e w' => e = .returned (.bool (isR net bits r)) ∧ Below w.heap.size w w' := by
  have heq : ∀ w, (Op.equalIn 10000 26 (.agg (ipA r.net)) (.agg (ipA net))).run Try.prog w = .ok (decide (r.net = net)) w := fun w => eq_ip 9998 r.net net w
  obtain ⟨w1, hw1⟩ : ∃ w1, w.alloc (.cells (roA r) 28) = w1 := ⟨_, rfl⟩
  have HB1 : Hid (Below w.heap.size w w1) := by rw [← hw1]; exact (Below.refl _ _).alloc (Nat.le_refl _) _
  have HX0 : Hid (w1.heap[w.heap.size]? = some (.cells (roA r) 28 (0, 0))) := by rw [← hw1]; exact heap_alloc_new w _
  have HX1 : Hid (w1.heap[b]? = some (.cells (ipA net) 26 (0, 0))) := by rw [← hw1]; exact old_alloc hg _
  have HX2 : Hid (w1.heap[d]? = some (.cells #[.int .i64 bits] 3 (0, 0))) := by rw [← hw1]; exact old_alloc hg2 _
  have HW := Lib.hid hw1
  have c4 : w1.cell? ⟨w.heap.size, 4, none⟩ = some (.int .i64 r.bits) := (cell_of_row _ _ _ _ _ _ HX0.out).trans (roA_bits r)
  have d0 := one_cells HX2.out
  have AN : Hid (∀ (j : Nat) v, (ipA r.net)[j]? = some v → w1.cell? ((⟨w.heap.size, 0, none⟩ : Addr).add j) = some v) := fun j v hv => var_all HX0.out w1 (Below.refl _ _) j v (roA_net r j v hv)
  have HV : Hid (isR net bits r = decide (r.net = net ∧ r.bits = bits)) := rfl
  generalize r.bits = p at *
  have HS0 : Hid ((ipA r.net).size = 4) := ipE.size _
  have HS1 : Hid ((ipA net).size = 4) := ipE.size _
  clear hw1 hg hg2
  by_cases hn : r.net = net
  · rw [decide_eq_true hn] at heq
    have HF : Hid (isR net bits r = decide (p = bits)) := HV.out.trans (decide_eq_decide.2 (by simp [hn]))
    clear hn HV
    generalize ipA r.net = CA at *
    generalize ipA net = CN at *
    go_enter Try.func31, Try.ntmps31
    go_upto_region 1 with (fail)
    change Code.wp _ _ _ _ (w.alloc (.cells (roA r) 28))
    rw [HW.out]
    clear HW
    go_wp2_with (first | refine wpList_load_atA rfl 26 _ rfl ⟨w.heap.size, 0, none⟩ rfl CA _ AN.out Try.underlying26 rfl (by rw [HS0.out]; kernel_rfl) ?_ | refine wpList_load_row rfl 26 _ rfl b rfl 26 CN (0, 0) _ HX1.out Try.underlying26 rfl (by rw [HS1.out]; kernel_rfl) ?_)
    go_wp2
    go_ret
    rw [HF.out]
    exact ⟨rfl, HB1.out⟩
  · rw [decide_eq_false hn] at heq
    have HF : Hid (isR net bits r = false) := HV.out.trans (decide_eq_false (by simp [hn]))
    clear hn HV
    generalize ipA r.net = CA at *
    generalize ipA net = CN at *
    go_enter Try.func31, Try.ntmps31
    go_upto_region 1 with (fail)
    change Code.wp _ _ _ _ (w.alloc (.cells (roA r) 28))
    rw [HW.out]
    clear HW
    go_wp2_with (first | refine wpList_load_atA rfl 26 _ rfl ⟨w.heap.size, 0, none⟩ rfl CA _ AN.out Try.underlying26 rfl (by rw [HS0.out]; kernel_rfl) ?_ | refine wpList_load_row rfl 26 _ rfl b rfl 26 CN (0, 0) _ HX1.out Try.underlying26 rfl (by rw [HS1.out]; kernel_rfl) ?_)
    go_wp2
    go_ret
    rw [HF.out]
    exact ⟨rfl, HB1.out⟩
set_option maxRecDepth 100000 in
set_option maxHeartbeats 1000000 in
theorem idxr_any (v : Value) (K : List Ro) (net : Ip) (bits : Int) (b d : Nat) (w : World) (hv : RoT w v K) (hl : K.length ≤ 1000) (hg : w.heap[b]? = some (.cells (ipA net) 26 (0, 0))) (hg2 : w.heap[d]? = some (.cells #[.int .i64 bits] 3 (0, 0))) :
    Calls Try.prog 30 #[v, .func (.func 31) #[] #[.pointer (some ⟨b, 0, none⟩), .pointer (some ⟨d, 0, none⟩)]] w fun e w' => e = .returned (.int .i64 (idxV (isR net bits) K)) ∧ Below w.heap.size w w' := by
  obtain ⟨A, c, rfl, htr, _⟩ := hv
  obtain ⟨n, hnn⟩ : ∃ n, K.length = n := ⟨_, rfl⟩
  rw [hnn] at hl ⊢
  have HN := Lib.hid hnn
  have HTR := Lib.hid htr
  have HG := Lib.hid hg
  have HG2 := Lib.hid hg2
  clear hnn htr hg hg2
  go_enter Try.func30, Try.ntmps30
  go_wp2
  go_loopw [8] (fun t8 wr => ∃ k : Nat, k ≤ n ∧ t8 = .int .i64 (k : Int) ∧ Hid (∀ j h, j < k → K[j]? = some h → isR net bits h = false) ∧ Hid (Below w.heap.size w wr)) (fun t8 _ => n - (intOf t8).toNat)
  case atStart => exact ⟨0, Nat.zero_le _, rfl, Lib.hid (fun j h hj => by omega), Lib.hid (Below.refl _ _)⟩
  case round =>
    obtain ⟨k, hk, rfl, HNO, HBEL⟩ := hrel
    by_cases hlt : k < n
    · obtain ⟨h, hh⟩ : ∃ h, K[k]? = some h := ⟨_, List.getElem?_eq_getElem (by rw [HN.out]; exact hlt)⟩
      obtain ⟨ad, rfl, hel⟩ := el_cells roE (HTR.out.below HBEL.out (Nat.le_refl _)) (by omega) hh
      have HEL := Lib.hid hel
      have HHK := Lib.hid hh
      clear hh hel
      go_wp2_with (refine wpList_load_atA rfl 28 _ rfl (ad.add (k * 9)) rfl (roA h) _ HEL.out Try.underlying28 rfl (by kernel_rfl) ?_)
      refine (place1_any h net bits b d wr (old_below HG.out HBEL.out (row_lt HG.out)) (old_below HG2.out HBEL.out (row_lt HG2.out))).mono ?_
      rintro e w2 ⟨rfl, hb⟩
      have HB2 := Lib.hid (HBEL.out.trans (hb.mono HBEL.out.size))
      clear hb
      cases hbl : isR net bits h
      · have HN2 := Lib.hid (no_next HNO.out HHK.out hbl)
        clear hbl
        go_wp2
        go_roundw
        case rel => exact ⟨k + 1, by omega, by go_num, HN2, HB2⟩
        case measure => simp [intOf]; omega
      · have HV : Hid (idxV (isR net bits) K = (k : Int)) := by
          show _ = _
          unfold idxV
          rw [idx_some HHK.out hbl HNO.out]
        clear hbl
        go_wp2
        go_ret
        exact ⟨by rw [HV.out]; rfl, HB2.out⟩
    · obtain rfl : k = n := by omega
      have HV : Hid (idxV (isR net bits) K = -1) := by
        show _ = _
        unfold idxV
        rw [idx_none fun j h hj hj2 => HNO.out j h (by rw [← HN.out]; exact hj) hj2]
      go_wp2
      go_ret
      exact ⟨by rw [HV.out]; rfl, HBEL.out⟩
theorem place_any (v : Value) (K : List Ro) (net : Ip) (bits : Int) (w : World) (hv : RoT w v K) (hl : K.length ≤ 1000) :
    Calls Try.prog 19 #[v, .agg (ipA net), .int .i64 bits] w fun e w' => e = .returned (.int .i64 (idxV (isR net bits) K)) ∧ Below w.heap.size w w' := by
  obtain ⟨w1, hw1⟩ : ∃ w1, (w.alloc (.cells (ipA net) 26)).alloc (.cells #[.int .i64 bits] 3) = w1 := ⟨_, rfl⟩
  have HB1 : Hid (Below w.heap.size w w1) := by rw [← hw1]; exact ((Below.refl _ _).alloc (Nat.le_refl _) _).alloc (by simp) _
  have HX0 : Hid (w1.heap[w.heap.size]? = some (.cells (ipA net) 26 (0, 0))) := by rw [← hw1]; exact old_alloc (heap_alloc_new w _) _
  have HX1 : Hid (w1.heap[w.heap.size + 1]? = some (.cells #[.int .i64 bits] 3 (0, 0))) := by rw [← hw1]; exact new_at1 w _ _
  have HW := Lib.hid hw1
  have HC := Lib.hid (idxr_any v K net bits _ _ w1 (hv.below HB1.out) hl HX0.out HX1.out)
  generalize idxV (isR net bits) K = z at HC ⊢
  clear hw1 hv
  go_enter Try.func19, Try.ntmps19
  go_upto_region 1 with (fail)
  change Code.wp _ _ _ _ ((w.alloc (.cells (ipA net) 26)).alloc (.cells #[.int .i64 bits] 3))
  rw [HW.out]
  clear HW
  go_wp2_with fail
  refine HC.out.mono ?_
  rintro e w2 ⟨rfl, hb⟩
  have HB2 := Lib.hid (HB1.out.trans (hb.mono HB1.out.size))
  clear hb
  go_wp2
  go_ret
  exact ⟨rfl, HB2.out⟩
end Go.Proofs.Ytfifigokglmjlaa
