/-
  wheel.place and wheel.until, slices.IndexFunc. Every slice of at most 1000 timers.
-/
import Derived.Test.YtljochpomgjjeaaClW
import Derived.Test.YtljochpomgjjeaaVar
import Derived.Test.YtljochpomgjjeaaRft
namespace Go.Proofs.Ytljochpomgjjeaa
open Go.RowKit

/-- the place of the first, -1 if there is none -/
def idxV {α : Type} (f : α → Bool) (l : List α) : Int := match l.findIdx? f with | some i => (i : Int) | none => -1
theorem idxV_cases {α : Type} (f : α → Bool) (l : List α) : (idxV f l = -1 ∧ l.findIdx? f = none) ∨ ∃ i : Nat, idxV f l = (i : Int) ∧ i < l.length ∧ l.findIdx? f = some i := by
  unfold idxV
  cases h : l.findIdx? f with
  | none => exact .inl ⟨rfl, rfl⟩
  | some i => exact .inr ⟨i, rfl, (List.findIdx?_eq_some_iff_getElem.1 h).1, rfl⟩
def isI (id : Int) (t : Tm) : Bool := decide (t.id = id)
set_option maxRecDepth 100000 in
set_option maxHeartbeats 4000000 in
theorem place1_any (t : Tm) (id : Int) (b : Nat) (w : World) (hg : w.heap[b]? = some (.cells #[.int .i64 id] 3 (0, 0))) :
    Calls Try.prog 28 #[.agg (tmA t), .pointer (some ⟨b, 0, none⟩)] w fun e w' => e = .returned (.bool (isI id t)) ∧ Below w.heap.size w w' := by
  obtain ⟨w1, hw1⟩ : ∃ w1, w.alloc (.cells (tmA t) 53) = w1 := ⟨_, rfl⟩
  have HB1 : Hid (Below w.heap.size w w1) := by rw [← hw1]; exact (Below.refl _ _).alloc (Nat.le_refl _) _
  have HX0 : Hid (w1.heap[w.heap.size]? = some (.cells (tmA t) 53 (0, 0))) := by rw [← hw1]; exact heap_alloc_new w _
  have HX1 : Hid (w1.heap[b]? = some (.cells #[.int .i64 id] 3 (0, 0))) := by rw [← hw1]; exact old_alloc hg _
  have HW := Lib.hid hw1
  obtain ⟨c0, c1⟩ := two_cells HX0.out
  have d0 := one_cells HX1.out
  have HV : Hid (isI id t = decide (t.id = id)) := rfl
  generalize t.id = p at *
  have HS0 : Hid ((tmA t).size = 2) := tmE.size _
  generalize tmA t = CT at *
  clear hw1 hg
  go_enter Try.func28, Try.ntmps28
  go_upto_region 1 with (fail)
  change Code.wp _ _ _ _ (w.alloc (.cells CT 53))
  rw [HW.out]
  clear HW
  go_wp2
  go_ret
  rw [HV.out]
  exact ⟨rfl, HB1.out⟩
set_option maxRecDepth 100000 in
set_option maxHeartbeats 1000000 in
theorem idxw_any (v : Value) (K : List Tm) (id : Int) (b : Nat) (w : World) (hv : TsS w v K) (hl : K.length ≤ 1000) (hg : w.heap[b]? = some (.cells #[.int .i64 id] 3 (0, 0))) :
    Calls Try.prog 27 #[v, .func (.func 28) #[] #[.pointer (some ⟨b, 0, none⟩)]] w fun e w' => e = .returned (.int .i64 (idxV (isI id) K)) ∧ Below w.heap.size w w' := by
  obtain ⟨A, c, rfl, htr, _⟩ := hv
  obtain ⟨n, hnn⟩ : ∃ n, K.length = n := ⟨_, rfl⟩
  rw [hnn] at hl ⊢
  have HN := Lib.hid hnn
  have HTR := Lib.hid htr
  have HG := Lib.hid hg
  clear hnn htr hg
  go_enter Try.func27, Try.ntmps27
  go_wp2
  go_loopw [8] (fun t8 wr => ∃ k : Nat, k ≤ n ∧ t8 = .int .i64 (k : Int) ∧ Hid (∀ j h, j < k → K[j]? = some h → isI id h = false) ∧ Hid (Below w.heap.size w wr)) (fun t8 _ => n - (intOf t8).toNat)
  case atStart => exact ⟨0, Nat.zero_le _, rfl, Lib.hid (fun j h hj => by omega), Lib.hid (Below.refl _ _)⟩
  case round =>
    obtain ⟨k, hk, rfl, HNO, HBEL⟩ := hrel
    by_cases hlt : k < n
    · obtain ⟨h, hh⟩ : ∃ h, K[k]? = some h := ⟨_, List.getElem?_eq_getElem (by rw [HN.out]; exact hlt)⟩
      obtain ⟨ad, rfl, hel⟩ := el_cells tmE (HTR.out.below HBEL.out (Nat.le_refl _)) (by omega) hh
      have HEL := Lib.hid hel
      have HHK := Lib.hid hh
      clear hh hel
      go_wp2_with (refine wpList_load_atA rfl 53 _ rfl (ad.add (k * 2)) rfl (tmA h) _ HEL.out Try.underlying53 rfl (by kernel_rfl) ?_)
      refine (place1_any h id b wr (old_below HG.out HBEL.out (row_lt HG.out))).mono ?_
      rintro e w2 ⟨rfl, hb⟩
      have HB2 := Lib.hid (HBEL.out.trans (hb.mono HBEL.out.size))
      clear hb
      cases hbl : isI id h
      · have HN2 := Lib.hid (no_next HNO.out HHK.out hbl)
        clear hbl
        go_wp2
        go_roundw
        case rel => exact ⟨k + 1, by omega, by go_num, HN2, HB2⟩
        case measure => simp [intOf]; omega
      · have HV : Hid (idxV (isI id) K = (k : Int)) := by
          show _ = _
          unfold idxV
          rw [idx_some HHK.out hbl HNO.out]
        clear hbl
        go_wp2
        go_ret
        exact ⟨by rw [HV.out]; rfl, HB2.out⟩
    · obtain rfl : k = n := by omega
      have HV : Hid (idxV (isI id) K = -1) := by
        show _ = _
        unfold idxV
        rw [idx_none fun j h hj hj2 => HNO.out j h (by rw [← HN.out]; exact hj) hj2]
      go_wp2
      go_ret
      exact ⟨by rw [HV.out]; rfl, HBEL.out⟩
theorem place_any (v : Value) (K : List Tm) (id : Int) (w : World) (hv : TsS w v K) (hl : K.length ≤ 1000) :
    Calls Try.prog 23 #[v, .int .i64 id] w fun e w' => e = .returned (.int .i64 (idxV (isI id) K)) ∧ Below w.heap.size w w' := by
  obtain ⟨w1, hw1⟩ : ∃ w1, w.alloc (.cells #[.int .i64 id] 3) = w1 := ⟨_, rfl⟩
  have HB1 : Hid (Below w.heap.size w w1) := by rw [← hw1]; exact (Below.refl _ _).alloc (Nat.le_refl _) _
  have HX0 : Hid (w1.heap[w.heap.size]? = some (.cells #[.int .i64 id] 3 (0, 0))) := by rw [← hw1]; exact heap_alloc_new w _
  have HW := Lib.hid hw1
  have HC := Lib.hid (idxw_any v K id _ w1 (hv.below HB1.out) hl HX0.out)
  generalize idxV (isI id) K = z at HC ⊢
  clear hw1 hv
  go_enter Try.func23, Try.ntmps23
  go_upto_region 1 with (fail)
  change Code.wp _ _ _ _ (w.alloc (.cells #[.int .i64 id] 3))
  rw [HW.out]
  clear HW
  go_wp2_with fail
  refine HC.out.mono ?_
  rintro e w2 ⟨rfl, hb⟩
  have HB2 := Lib.hid (HB1.out.trans (hb.mono HB1.out.size))
  clear hb
  go_wp2
  go_ret
  exact ⟨rfl, HB2.out⟩
/-- how many stand ahead that are due by then -/
def untC (K : List Tm) (d : Nat) : Nat := (K.takeWhile (fun x => decide (x.due ≤ d))).length
theorem take_while_stop {α : Type} {p : α → Bool} : ∀ {K : List α} {i : Nat} {x : α}, K[i]? = some x → p x = false → (∀ j h, j < i → K[j]? = some h → p h = true) → (K.takeWhile p).length = i
  | [], _, _, h, _, _ => by simp at h
  | y :: K, 0, x, h, hx, _ => by
    simp at h
    rw [← h] at hx
    rw [List.takeWhile_cons, hx]
    rfl
  | y :: K, i + 1, x, h, hx, ha => by
    rw [List.takeWhile_cons, ha 0 y (by omega) rfl, if_pos rfl, List.length_cons, take_while_stop (by simpa using h) hx (fun j h hj hh => ha (j + 1) h (by omega) (by simpa using hh))]
theorem take_while_end {α : Type} {p : α → Bool} : ∀ {K : List α}, (∀ j h, j < K.length → K[j]? = some h → p h = true) → (K.takeWhile p).length = K.length
  | [], _ => rfl
  | y :: K, ha => by
    rw [List.takeWhile_cons, ha 0 y (by simp) rfl, if_pos rfl, List.length_cons, take_while_end fun j h hj hh => ha (j + 1) h (by simp; omega) (by simpa using hh), List.length_cons]
theorem unt_le (K : List Tm) (d : Nat) : untC K d ≤ K.length := by
  unfold untC
  have := congrArg List.length (List.takeWhile_append_dropWhile (p := fun x : Tm => decide (x.due ≤ d)) (l := K))
  rw [List.length_append] at this
  omega
set_option maxRecDepth 100000 in
set_option maxHeartbeats 8000000 in
theorem until_any (v : Value) (K : List Tm) (d : Nat) (w : World) (hv : TsS w v K) (hl : K.length ≤ 1000) : Calls Try.prog 21 #[v, .int .u64 (d : Int)] w fun e w' => e = .returned (.int .i64 (untC K d : Int)) ∧ Below w.heap.size w w' := by
  obtain ⟨A, c, rfl, htr, _, hnc, hcm⟩ := hv
  obtain ⟨n, hnn⟩ : ∃ n, K.length = n := ⟨_, rfl⟩
  rw [hnn] at hl hnc ⊢
  have HTR := Lib.hid htr
  have HN := Lib.hid hnn
  clear hnn htr hcm
  go_enter Try.func21, Try.ntmps21
  go_wp2
  go_loopw [5] (fun t5 wr => ∃ i : Nat, i ≤ n ∧ t5 = .int .i64 (i : Int) ∧ Hid (∀ j h, j < i → K[j]? = some h → decide (h.due ≤ d) = true) ∧ Hid (Below w.heap.size w wr)) (fun t5 _ => n - (intOf t5).toNat)
  case atStart => exact ⟨0, Nat.zero_le _, rfl, Lib.hid (fun j h hj => by omega), Lib.hid (Below.refl _ _)⟩
  case round =>
    obtain ⟨i, hi, rfl, HYS, HBW⟩ := hrel
    have HTW := Lib.hid (HTR.out.below HBW.out (Nat.le_refl _))
    by_cases hlt : i < n
    · obtain ⟨q, hq⟩ : ∃ q, K[i]? = some q := ⟨_, List.getElem?_eq_getElem (by rw [HN.out]; exact hlt)⟩
      have HQ := Lib.hid hq
      obtain ⟨ad, rfl, hKA⟩ := el_all tmE HTW.out (by omega) hq
      have K1 : Hid (wr.cell? ((ad.add (i * 2)).add 1) = some (.int .u64 (q.due : Int))) := hKA wr (Below.refl _ _) 1 _ (tmA_due q)
      clear hKA hq
      by_cases hf : q.due ≤ d
      · have HY2 : Hid (∀ j h, j < i + 1 → K[j]? = some h → decide (h.due ≤ d) = true) := fun j h hj hh => by
          by_cases hji : j < i
          · exact HYS.out j h hji hh
          · obtain rfl : j = i := by omega
            rw [HQ.out] at hh
            injection hh with hh
            rw [← hh]
            exact decide_eq_true hf
        have hf2 : (q.due : Int) ≤ (d : Int) := by omega
        obtain ⟨z, hz⟩ : ∃ z, q.due = z := ⟨_, rfl⟩
        rw [hz] at K1 hf2
        clear hf hz
        have k1 : wr.cell? ⟨(ad.add (i * 2)).block, (ad.add (i * 2)).off + 1, none⟩ = some (.int .u64 (z : Int)) := K1.out
        go_wp2
        go_roundw
        case rel => exact ⟨i + 1, by omega, by go_num, HY2, HBW⟩
        case measure => simp [intOf]; omega
      · have HV : Hid (untC K d = i) := take_while_stop HQ.out (decide_eq_false hf) HYS.out
        have hf2 : ¬ (q.due : Int) ≤ (d : Int) := by omega
        obtain ⟨z, hz⟩ : ∃ z, q.due = z := ⟨_, rfl⟩
        rw [hz] at K1 hf2
        clear hf hz
        have k1 : wr.cell? ⟨(ad.add (i * 2)).block, (ad.add (i * 2)).off + 1, none⟩ = some (.int .u64 (z : Int)) := K1.out
        go_wp2
        go_ret
        rw [HV.out]
        exact ⟨rfl, HBW.out⟩
    · obtain rfl : i = n := by omega
      have HV : Hid (untC K d = i) := by
        have := take_while_end (K := K) (p := fun x => decide (x.due ≤ d)) (fun j h hj => HYS.out j h (by rw [HN.out] at hj; exact hj))
        rw [HN.out] at this
        exact this
      skip
      go_wp2
      go_ret
      rw [HV.out]
      exact ⟨rfl, HBW.out⟩
end Go.Proofs.Ytljochpomgjjeaa
