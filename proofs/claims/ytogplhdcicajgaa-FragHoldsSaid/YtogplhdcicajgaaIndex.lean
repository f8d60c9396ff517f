/-
  Which hole a piece belongs to: the function value that frag.Add hands to slices.IndexFunc, and what that answers. No condition.
-/
import Derived.Test.YtogplhdcicajgaaAge
namespace Go.Proofs.Ytogplhdcicajgaa
open Go.RowKit

/-- the place of the first, -1 if there is none -/
def idxV {α : Type} (f : α → Bool) (l : List α) : Int := match l.findIdx? f with | some i => (i : Int) | none => -1
theorem idx_some {α : Type} {f : α → Bool} {l : List α} {k : Nat} {h : α} (hk : l[k]? = some h) (hf : f h = true) (hno : ∀ j h, j < k → l[j]? = some h → f h = false) : l.findIdx? f = some k := by
  have hlt := (List.getElem?_eq_some_iff.1 hk).1
  refine List.findIdx?_eq_some_iff_getElem.2 ⟨hlt, ?_, fun j hj => ?_⟩
  · rw [(List.getElem?_eq_some_iff.1 hk).2]
    exact hf
  · rw [hno j _ hj (List.getElem?_eq_getElem (by omega))]
    simp
theorem idx_none {α : Type} {f : α → Bool} {l : List α} (hno : ∀ j h, j < l.length → l[j]? = some h → f h = false) : l.findIdx? f = none := by
  refine List.findIdx?_eq_none_iff.2 fun x hx => ?_
  obtain ⟨j, hj, rfl⟩ := List.mem_iff_getElem.1 hx
  exact hno j _ hj (List.getElem?_eq_getElem hj)

set_option maxHeartbeats 400000 in
theorem pred_any (cs ds : Array Value) (p : Pk) (h : Hk) (lo hi b : Nat) (w : World) (hp : PkV w lo hi cs p) (hhi : hi ≤ w.heap.size) (hg : w.heap[b]? = some (.cells cs 27 (0, 0))) (hh : HkT w ds.toList h) :
    Calls Try.prog 15 #[.agg ds, .pointer (some ⟨b, 0, none⟩)] w fun e w' => e = .returned (.bool (belongsB p h)) ∧ Below w.heap.size w w' := by
  obtain ⟨v, he, hok, _⟩ := hh
  have HX := Lib.hid (old_alloc hg (.cells ds 49))
  have HN := Lib.hid (heap_alloc_new w (.cells ds 49))
  have HB := Lib.hid ((Below.refl w.heap.size w).alloc (Nat.le_refl _) (.cells ds 49))
  have HS1 : Hid (cs.size = 14) := hp.size
  have HS2 : Hid (ds.size = 14) := by show _ = _; rw [← Array.length_toList, he]; exact hkC_len hok v
  have HE : Hid (ds = (hkC h v).toArray) := by show _ = _; rw [← he]
  have HP := Lib.hid hp
  have HHI := Lib.hid hhi
  have HOK := Lib.hid hok
  clear hp hhi hg he hok
  go_enter Try.func15, Try.ntmps15
  go_wp2_with (first | refine wpList_load_row rfl 27 _ rfl b rfl 27 cs (0, 0) _ HX.out Try.underlying27 rfl (size_pk HS1.out) ?_ | refine wpList_load_row rfl 49 _ rfl w.heap.size rfl 49 ds (0, 0) _ HN.out Try.underlying49 rfl (size_hk HS2.out) ?_)
  refine (belongs_any cs ds p h lo hi v _ (HP.out.alloc HHI.out (.cells ds 49)) HE.out HOK.out).mono ?_
  rintro e w2 ⟨rfl, hb⟩
  have HB2 := Lib.hid (HB.out.trans (hb.mono HB.out.size))
  clear hb
  go_wp2
  go_ret
  exact ⟨rfl, HB2.out⟩

set_option maxRecDepth 100000 in
set_option maxHeartbeats 4000000 in
theorem index_any (v : Value) (hs : List Hk) (cs : Array Value) (p : Pk) (lo hi b : Nat) (w : World) (hv : HksT w v hs) (hl : hs.length ≤ 1000) (hp : PkV w lo hi cs p) (hhi : hi ≤ w.heap.size) (hg : w.heap[b]? = some (.cells cs 27 (0, 0))) :
    Calls Try.prog 14 #[v, .func (.func 15) #[] #[.pointer (some ⟨b, 0, none⟩)]] w fun e w' => e = .returned (.int .i64 (idxV (belongsB p) hs)) ∧ Below w.heap.size w w' := by
  obtain ⟨A, c, xs, rfl, htr, hrow, _⟩ := hv
  obtain ⟨n, hnn⟩ : ∃ n, hs.length = n := ⟨_, rfl⟩
  rw [hnn] at hl ⊢
  have HN := Lib.hid hnn
  have HTR := Lib.hid htr
  have HROW := Lib.hid hrow
  have HP := Lib.hid hp
  have HHI := Lib.hid hhi
  have HG := Lib.hid hg
  clear hnn htr hrow hp hhi hg
  go_enter Try.func14, Try.ntmps14
  go_wp2
  go_loopw [8] (fun t8 wr => ∃ k : Nat, k ≤ n ∧ t8 = .int .i64 (k : Int) ∧ Hid (∀ j h, j < k → hs[j]? = some h → belongsB p h = false) ∧ Hid (Below w.heap.size w wr)) (fun t8 _ => n - (intOf t8).toNat)
  case atStart => exact ⟨0, Nat.zero_le _, rfl, Lib.hid (fun j h hj => by omega), Lib.hid (Below.refl _ _)⟩
  case round =>
    obtain ⟨k, hk, rfl, HNO, HBEL⟩ := hrel
    by_cases hlt : k < n
    · obtain ⟨h, hh⟩ : ∃ h, hs[k]? = some h := ⟨_, List.getElem?_eq_getElem (by rw [HN.out]; exact hlt)⟩
      have hx := HTR.out.rd
      obtain ⟨ad, rfl⟩ : ∃ ad, A = some ad := by
        obtain ⟨ad, e, _⟩ := hx 0 _ (List.getElem?_eq_getElem (by rw [HROW.out.1, HN.out]; omega))
        exact ⟨ad, e⟩
      obtain ⟨ds, hds⟩ : ∃ ds, (xs.drop (k * 14)).take 14 = ds := ⟨_, rfl⟩
      have HH : Hid (HkT w ds h) := by rw [← hds]; exact HROW.out.2 k h hh
      have HEL : Hid (∀ j v, ds[j]? = some v → wr.cell? ((ad.add (k * 14)).add j) = some v) := by
        rw [← hds]
        exact ((hx.below HBEL.out (Nat.le_refl _)).elem k)
      have HHK := Lib.hid hh
      clear hh hx hds
      go_wp2_with (refine wpList_load_at rfl 49 _ rfl (ad.add (k * 14)) rfl ds _ HEL.out Try.underlying49 rfl (by rw [HH.out.len]; kernel_rfl) ?_)
      refine (pred_any cs ds.toArray p h lo hi b wr (HP.out.below HBEL.out HHI.out) (Nat.le_trans HHI.out HBEL.out.size) ((HBEL.out.block _ (row_lt HG.out)).trans HG.out) (HH.out.keeps (Keeps.below HBEL.out (Nat.le_refl _)))).mono ?_
      rintro e w2 ⟨rfl, hb⟩
      have HB2 := Lib.hid (HBEL.out.trans (hb.mono HBEL.out.size))
      clear hb
      cases hbl : belongsB p h
      · have HN2 : Hid (∀ j h, j < k + 1 → hs[j]? = some h → belongsB p h = false) := fun j h' hj hj2 => by
          by_cases hjk : j < k
          · exact HNO.out j h' hjk hj2
          · obtain rfl : j = k := by omega
            rw [HHK.out] at hj2
            injection hj2 with hj2
            rw [← hj2]
            exact hbl
        clear hbl
        go_wp2
        go_roundw
        case rel => exact ⟨k + 1, by omega, by go_num, HN2, HB2⟩
        case measure => simp [intOf]; omega
      · have HV : Hid (idxV (belongsB p) hs = (k : Int)) := by
          show _ = _
          unfold idxV
          rw [idx_some HHK.out hbl HNO.out]
        clear hbl
        go_wp2
        go_ret
        exact ⟨by rw [HV.out]; rfl, HB2.out⟩
    · obtain rfl : k = n := by omega
      have HV : Hid (idxV (belongsB p) hs = -1) := by
        show _ = _
        unfold idxV
        rw [idx_none fun j h hj hj2 => HNO.out j h (by rw [← HN.out]; exact hj) hj2]
      go_wp2
      go_ret
      exact ⟨by rw [HV.out]; rfl, HBEL.out⟩
end Go.Proofs.Ytogplhdcicajgaa
