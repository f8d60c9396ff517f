/-
  The function values that delete, and slices.IndexFunc of what is learnt and of ports. No condition.
-/
import Derived.Test.YtecbelnmdimnkaaSmB
namespace Go.Proofs.Ytecbelnmdimnkaa
open Go.RowKit

def isM (a : Mac) (l : Ln) : Bool := decide (l.m = a)
def isP (q n : Nat) : Bool := decide (n = q)
theorem see1_any (l : Ln) (a : Mac) (b : Nat) (w : World) (hg : w.heap[b]? = some (.cells (macA a) 46 (0, 0))) :
    Calls Try.prog 26 #[.agg (lnA l), .pointer (some ⟨b, 0, none⟩)] w fun e w' => e = .returned (.bool (isM a l)) ∧ Below w.heap.size w w' := by
  have heq : ∀ w, (Op.equalIn 10000 46 (.agg (macA l.m)) (.agg (macA a))).run Try.prog w = .ok (isM a l) w := eq_mac 9998 l.m a
  have HX := Lib.hid (old_alloc hg (.cells (lnA l) 58))
  have HC : Hid (∀ (j : Nat) v, (macA l.m)[j]? = some v → (w.alloc (.cells (lnA l) 58)).cell? ((⟨w.heap.size, 0, none⟩ : Addr).add j) = some v) := fun j v hv => by
    rw [Addr.add_mid, Nat.zero_add, cell_of_row _ _ _ _ _ _ (heap_alloc_new w _)]
    exact lnA_mac l j v hv
  clear hg
  go_enter Try.func26, Try.ntmps26
  go_wp2_with (first | refine wpList_load_atA rfl 46 _ rfl ⟨w.heap.size, 0, none⟩ rfl (macA l.m) _ HC.out Try.underlying46 rfl (by kernel_rfl) ?_ | refine wpList_load_row rfl 46 _ rfl b rfl 46 (macA a) (0, 0) _ HX.out Try.underlying46 rfl (by kernel_rfl) ?_)
  go_ret
  exact ⟨rfl, (Below.refl _ _).alloc (Nat.le_refl _) _⟩
theorem exc1_any (n q : Nat) (b : Nat) (w : World) (hg : w.heap[b]? = some (.cells #[.int .i64 (q : Int)] 3 (0, 0))) :
    Calls Try.prog 31 #[.int .i64 (n : Int), .pointer (some ⟨b, 0, none⟩)] w fun e w' => e = .returned (.bool (isP q n)) ∧ w = w' := by
  have hc := one_cells hg
  have hd : Hid (((n : Int) == (q : Int)) = isP q n) := by
    show _ = _
    unfold isP
    rw [Bool.eq_iff_iff, beq_iff_eq, decide_eq_true_iff]
    omega
  clear hg
  go_enter Try.func31, Try.ntmps31
  go_wp2
  go_ret
  exact ⟨congrArg (fun b => Ending.returned (Value.bool b)) hd.out, rfl⟩

/-- the place of the first, -1 if there is none -/
def idxV {α : Type} (f : α → Bool) (l : List α) : Int := match l.findIdx? f with | some i => (i : Int) | none => -1
theorem idx_some {α : Type} {f : α → Bool} {l : List α} {k : Nat} {h : α} (hk : l[k]? = some h) (hf : f h = true) (hno : ∀ j h, j < k → l[j]? = some h → f h = false) : l.findIdx? f = some k := by
  have hlt := (List.getElem?_eq_some_iff.1 hk).1
  refine List.findIdx?_eq_some_iff_getElem.2 ⟨hlt, ?_, fun j hj => ?_⟩
  · rw [(List.getElem?_eq_some_iff.1 hk).2]
    exact hf
  · rw [hno j _ hj (List.getElem?_eq_getElem (by omega))]
    simp
theorem idx_none {α : Type} {f : α → Bool} {l : List α} (hno : ∀ j h, j < l.length → l[j]? = some h → f h = false) : l.findIdx? f = none := by
  refine List.findIdx?_eq_none_iff.2 fun x hx => ?_
  obtain ⟨j, hj, rfl⟩ := List.mem_iff_getElem.1 hx
  exact hno j _ hj (List.getElem?_eq_getElem hj)
/-- an element's cells, out of a slice that reads as what is learnt -/
theorem ln_cells {w : World} {A : Option Addr} {K : List Ln} (h : Tr w 0 58 A (lns K)) {k : Nat} {l : Ln} (hk : K[k]? = some l) : ∃ ad, A = some ad ∧ ∀ (j : Nat) v, (lnA l)[j]? = some v → w.cell? ((ad.add (k * 7)).add j) = some v := by
  have hx := h.rd
  have hlt := (List.getElem?_eq_some_iff.1 hk).1
  obtain ⟨ad, rfl, _⟩ := hx 0 _ (List.getElem?_eq_getElem (by rw [lns_length]; omega))
  refine ⟨ad, rfl, fun j v hv => ?_⟩
  obtain ⟨ad', e, _, _, hc⟩ := hx _ v (lns_cell K k l hk j v hv)
  cases e
  rw [add_twice]
  exact hc
theorem int_cells {w : World} {A : Option Addr} {L : List Nat} (h : Tr w 0 3 A (ints L)) {k n : Nat} (hk : L[k]? = some n) : ∃ ad, A = some ad ∧ w.cell? (ad.add k) = some (.int .i64 (n : Int)) := by
  obtain ⟨ad, e, _, _, hc⟩ := h.rd k _ (ints_get L k n hk)
  exact ⟨ad, e, hc⟩

set_option maxRecDepth 100000 in
set_option maxHeartbeats 1000000 in
theorem idx7_any (v : Value) (K : List Ln) (a : Mac) (b : Nat) (w : World) (hv : KsT w v K) (hl : K.length ≤ 1000) (hg : w.heap[b]? = some (.cells (macA a) 46 (0, 0))) :
    Calls Try.prog 29 #[v, .func (.func 26) #[] #[.pointer (some ⟨b, 0, none⟩)]] w fun e w' => e = .returned (.int .i64 (idxV (isM a) K)) ∧ Below w.heap.size w w' := by
  obtain ⟨A, c, rfl, htr, _⟩ := hv
  obtain ⟨n, hnn⟩ : ∃ n, K.length = n := ⟨_, rfl⟩
  rw [hnn] at hl ⊢
  have HN := Lib.hid hnn
  have HTR := Lib.hid htr
  have HG := Lib.hid hg
  clear hnn htr hg
  go_enter Try.func29, Try.ntmps29
  go_wp2
  go_loopw [8] (fun t8 wr => ∃ k : Nat, k ≤ n ∧ t8 = .int .i64 (k : Int) ∧ Hid (∀ j h, j < k → K[j]? = some h → isM a h = false) ∧ Hid (Below w.heap.size w wr)) (fun t8 _ => n - (intOf t8).toNat)
  case atStart => exact ⟨0, Nat.zero_le _, rfl, Lib.hid (fun j h hj => by omega), Lib.hid (Below.refl _ _)⟩
  case round =>
    obtain ⟨k, hk, rfl, HNO, HBEL⟩ := hrel
    by_cases hlt : k < n
    · obtain ⟨h, hh⟩ : ∃ h, K[k]? = some h := ⟨_, List.getElem?_eq_getElem (by rw [HN.out]; exact hlt)⟩
      obtain ⟨ad, rfl, hel⟩ := ln_cells (HTR.out.below HBEL.out (Nat.le_refl _)) hh
      have HEL := Lib.hid hel
      have HHK := Lib.hid hh
      clear hh hel
      go_wp2_with (refine wpList_load_atA rfl 58 _ rfl (ad.add (k * 7)) rfl (lnA h) _ HEL.out Try.underlying58 rfl (by kernel_rfl) ?_)
      refine (see1_any h a b wr ((HBEL.out.block _ (row_lt HG.out)).trans HG.out)).mono ?_
      rintro e w2 ⟨rfl, hb⟩
      have HB2 := Lib.hid (HBEL.out.trans (hb.mono HBEL.out.size))
      clear hb
      cases hbl : isM a h
      · have HN2 : Hid (∀ j h, j < k + 1 → K[j]? = some h → isM a h = false) := fun j h' hj hj2 => by
          by_cases hjk : j < k
          · exact HNO.out j h' hjk hj2
          · obtain rfl : j = k := by omega
            rw [HHK.out] at hj2
            injection hj2 with hj2
            rw [← hj2]
            exact hbl
        clear hbl
        go_wp2
        go_roundw
        case rel => exact ⟨k + 1, by omega, by go_num, HN2, HB2⟩
        case measure => simp [intOf]; omega
      · have HV : Hid (idxV (isM a) K = (k : Int)) := by
          show _ = _
          unfold idxV
          rw [idx_some HHK.out hbl HNO.out]
        clear hbl
        go_wp2
        go_ret
        exact ⟨by rw [HV.out]; rfl, HB2.out⟩
    · obtain rfl : k = n := by omega
      have HV : Hid (idxV (isM a) K = -1) := by
        show _ = _
        unfold idxV
        rw [idx_none fun j h hj hj2 => HNO.out j h (by rw [← HN.out]; exact hj) hj2]
      go_wp2
      go_ret
      exact ⟨by rw [HV.out]; rfl, HBEL.out⟩
set_option maxRecDepth 100000 in
set_option maxHeartbeats 1000000 in
theorem idx1_any (v : Value) (L : List Nat) (q b : Nat) (w : World) (hv : IsT w v L) (hl : L.length ≤ 1000) (hg : w.heap[b]? = some (.cells #[.int .i64 (q : Int)] 3 (0, 0))) :
    Calls Try.prog 32 #[v, .func (.func 31) #[] #[.pointer (some ⟨b, 0, none⟩)]] w fun e w' => e = .returned (.int .i64 (idxV (isP q) L)) ∧ w = w' := by
  obtain ⟨A, c, rfl, htr, _⟩ := hv
  obtain ⟨n, hnn⟩ : ∃ n, L.length = n := ⟨_, rfl⟩
  rw [hnn] at hl ⊢
  have HN := Lib.hid hnn
  have HTR := Lib.hid htr
  have HG := Lib.hid hg
  clear hnn htr hg
  go_enter Try.func32, Try.ntmps32
  go_wp2
  go_loopw [8] (fun t8 wr => ∃ k : Nat, k ≤ n ∧ t8 = .int .i64 (k : Int) ∧ Hid (∀ j h, j < k → L[j]? = some h → isP q h = false) ∧ wr = w) (fun t8 _ => n - (intOf t8).toNat)
  case atStart => exact ⟨0, Nat.zero_le _, rfl, Lib.hid (fun j h hj => by omega), rfl⟩
  case round =>
    obtain ⟨k, hk, rfl, HNO, rfl⟩ := hrel
    by_cases hlt : k < n
    · obtain ⟨h, hh⟩ : ∃ h, L[k]? = some h := ⟨_, List.getElem?_eq_getElem (by rw [HN.out]; exact hlt)⟩
      obtain ⟨ad, rfl, hel⟩ := int_cells HTR.out hh
      have HHK := Lib.hid hh
      clear hh
      go_wp2_with fail
      refine (exc1_any h q b wr HG.out).mono ?_
      rintro e w2 ⟨rfl, rfl⟩
      cases hbl : isP q h
      · have HN2 : Hid (∀ j h, j < k + 1 → L[j]? = some h → isP q h = false) := fun j h' hj hj2 => by
          by_cases hjk : j < k
          · exact HNO.out j h' hjk hj2
          · obtain rfl : j = k := by omega
            rw [HHK.out] at hj2
            injection hj2 with hj2
            rw [← hj2]
            exact hbl
        clear hbl
        go_wp2
        go_roundw
        case rel => exact ⟨k + 1, by omega, by go_num, HN2, trivial⟩
        case measure => simp [intOf]; omega
      · have HV : Hid (idxV (isP q) L = (k : Int)) := by
          show _ = _
          unfold idxV
          rw [idx_some HHK.out hbl HNO.out]
        clear hbl
        go_wp2
        go_ret
        exact ⟨by rw [HV.out]; rfl, rfl⟩
    · obtain rfl : k = n := by omega
      have HV : Hid (idxV (isP q) L = -1) := by
        show _ = _
        unfold idxV
        rw [idx_none fun j h hj hj2 => HNO.out j h (by rw [← HN.out]; exact hj) hj2]
      go_wp2
      go_ret
      exact ⟨by rw [HV.out]; rfl, rfl⟩
end Go.Proofs.Ytecbelnmdimnkaa
