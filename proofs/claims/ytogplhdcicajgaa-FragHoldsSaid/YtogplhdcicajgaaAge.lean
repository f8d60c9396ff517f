/-
  frag.Age: the holes that are not too old, in memory of their own. Every slice that reads as holes, every time. No condition.
-/
import Derived.Test.YtogplhdcicajgaaClone
namespace Go.Proofs.Ytogplhdcicajgaa
open Go.RowKit

theorem age_succ (hs : List Hk) (now k : Nat) (h : Hk) (hk : hs[k]? = some h) : ageP (hs.take (k + 1)) now = ageP (hs.take k) now ++ (if oldB h now = true then [] else [h]) := by
  have hlt := (List.getElem?_eq_some_iff.1 hk).1
  rw [List.take_succ_eq_append_getElem hlt]
  have e : hs[k] = h := (List.getElem?_eq_some_iff.1 hk).2
  rw [e]
  unfold ageP
  rw [List.filter_append]
  congr 1
  cases ho : oldB h now <;> simp [ho]
theorem age_le (hs : List Hk) (now k : Nat) : (ageP (hs.take k) now).length ≤ k := by
  unfold ageP
  exact Nat.le_trans (List.length_filter_le _ _) (List.length_take_le _ _)

set_option maxRecDepth 100000 in
set_option maxHeartbeats 4000000 in
theorem age_any (v : Value) (hs : List Hk) (now : Nat) (w : World) (hv : HksT w v hs) (hl : hs.length ≤ 1000) (hn : now < 18446744073709551616) :
    Calls Try.prog 11 #[v, .int .u64 (now : Int)] w fun e w' => ∃ v', e = .returned v' ∧ OwnHks w' w.heap.size v' (ageP hs now) ∧ Below w.heap.size w w' := by
  obtain ⟨A, c, xs, rfl, htr, hrow, _⟩ := hv
  obtain ⟨n, hnn⟩ : ∃ n, hs.length = n := ⟨_, rfl⟩
  rw [hnn] at hl ⊢
  have HN := Lib.hid hnn
  have HTR := Lib.hid htr
  have HROW := Lib.hid hrow
  have HNOW := Lib.hid hn
  obtain ⟨i0, hi0, hz0, hz1, hz2⟩ := info_parts info_hk
  have HI := Lib.hid (And.intro hi0 (And.intro hz0 (And.intro hz1 hz2)))
  clear hnn htr hrow hn hi0 hz0 hz1 hz2
  go_enter Try.func11, Try.ntmps11
  go_wp2
  go_loopw [5, 10] (fun t5 t10 wr => ∃ (k : Nat) (ys : List Value), k ≤ n ∧ t10 = .int .i64 (k : Int) ∧ Hid (wr.ownsRow w.heap.size 49 14 t5 (ageP (hs.take k) now).length ys) ∧ Hid (RowOf 14 (HkT wr) ys (ageP (hs.take k) now)) ∧ Hid (Below w.heap.size w wr)) (fun _ t10 _ => n - (intOf t10).toNat)
  case atStart => exact ⟨0, [], Nat.zero_le _, rfl, Lib.hid (World.ownsRow_nil _ _ _ _), Lib.hid RowOf.nil, Lib.hid (Below.refl _ _)⟩
  case round =>
    obtain ⟨k, ys, hk, rfl, HOWN, HRY, HBEL⟩ := hrel
    generalize u5 = v5 at HOWN ⊢
    by_cases hlt : k < n
    · obtain ⟨h, hh⟩ : ∃ h, hs[k]? = some h := ⟨_, List.getElem?_eq_getElem (by rw [HN.out]; exact hlt)⟩
      have hx := HTR.out.rd
      obtain ⟨ad, rfl⟩ : ∃ ad, A = some ad := by
        obtain ⟨ad, e, _⟩ := hx 0 _ (List.getElem?_eq_getElem (by rw [HROW.out.1, HN.out]; omega))
        exact ⟨ad, e⟩
      obtain ⟨ds, hds⟩ : ∃ ds, (xs.drop (k * 14)).take 14 = ds := ⟨_, rfl⟩
      have HH : Hid (HkT w ds h) := by rw [← hds]; exact HROW.out.2 k h hh
      have HEL : Hid (∀ j v, ds[j]? = some v → wr.cell? ((ad.add (k * 14)).add j) = some v) := by
        rw [← hds]
        exact ((hx.below HBEL.out (Nat.le_refl _)).elem k)
      have HAS := Lib.hid (age_succ hs now k h hh)
      have HLE := Lib.hid (age_le hs now k)
      clear hh hx hds
      go_wp2_with (first | refine wpList_load_at rfl 49 _ rfl (ad.add (k * 14)) rfl ds _ HEL.out Try.underlying49 rfl (by rw [HH.out.len]; kernel_rfl) ?_ | refine wpList_store_new rfl 49 _ _ rfl wr #[.int .u8 0, .int .u8 0, .int .u8 0, .int .u8 0, .int .u8 0, .int .u8 0, .int .u8 0, .int .u8 0, .int .u8 0, .int .u16 0, .int .u8 0, .int .u64 0, .int .i64 0, .slice none 0 0] ds.toArray rfl rfl (size_hk (by simpa using HH.out.len)) (by simp [HH.out.len]) (all_one HH.out.one) ?_ | refine wpList_load_row rfl 49 _ rfl wr.heap.size rfl 49 ds.toArray (0, 0) _ (heap_alloc_new wr _) Try.underlying49 rfl (size_hk (by simpa using HH.out.len)) ?_)
      obtain ⟨_, _, _, _, _, _, h11, _⟩ := HH.out.parts
      refine (old_any ds.toArray h now _ (by rw [List.getElem?_toArray]; exact h11) HH.out.ok.2.2.2.1 HNOW.out).mono ?_
      rintro e w2 ⟨rfl, hb2⟩
      obtain ⟨b, hb⟩ : ∃ b, wr.heap.size = b := ⟨_, rfl⟩
      have HX2 : Hid (w2.heap[b]? = some (.cells ds.toArray 49 (0, 0))) := by rw [← hb]; exact (hb2.block _ (by simp)).trans (heap_alloc_new wr _)
      have HKK := Lib.hid ((Keeps.below ((Below.refl wr.heap.size wr).alloc (Nat.le_refl _) (.cells ds.toArray 49)) (Nat.le_refl _)).trans (Keeps.below hb2 (Nat.le_refl _)))
      have HB2 := Lib.hid ((HBEL.out.alloc HBEL.out.size (.cells ds.toArray 49)).trans (hb2.mono (HBEL.out.alloc HBEL.out.size _).size))
      have HO2 := Lib.hid (ownk_below (HOWN.out.alloc (.cells ds.toArray 49)) hb2 (Nat.le_refl _))
      have HR2 : Hid (RowOf 14 (HkT w2) ys (ageP (hs.take k) now)) := HRY.out.imp fun _ _ _ hp => hp.keeps HKK.out
      have HH2 : Hid (HkT w2 ds h) := HH.out.keeps ((Keeps.below HBEL.out (Nat.le_refl _)).trans HKK.out)
      rw [hb]
      clear hb2 hb h11
      cases ho : oldB h now
      · have hsucc := HAS.out
        rw [ho, if_neg (by simp)] at hsucc
        have HS2 := Lib.hid hsucc
        clear hsucc ho
        go_wp2_with (refine wpList_load_row rfl 49 _ rfl b rfl 49 ds.toArray (0, 0) _ HX2.out Try.underlying49 rfl (size_hk (by simpa using HH.out.len)) ?_)
        refine (cloneh_any ds.toArray h w2 HH2.out).mono ?_
        rintro e w3 ⟨es, rfl, hes, hb3⟩
        have HES := Lib.hid hes
        have HSZ : Hid (es.size = 14) := by have := hes.len; show _ = _; simpa using this
        have HB3 := Lib.hid (HB2.out.trans (hb3.mono HB2.out.size))
        have HO3 := Lib.hid (ownk_below HO2.out hb3 (Nat.le_refl _))
        have HR3 : Hid (RowOf 14 (HkT w3) ys (ageP (hs.take k) now)) := HR2.out.imp fun _ _ _ hp => hp.keeps (Keeps.below hb3 (Nat.le_refl _))
        obtain ⟨j, hj⟩ : ∃ j, (ageP (hs.take k) now).length = j := ⟨_, rfl⟩
        have HJ := Lib.hid hj
        have hjk : j ≤ k := by rw [← hj]; exact HLE.out
        have HO4 : Hid (w3.ownsRow w.heap.size 49 14 v5 j ys) := by rw [← hj]; exact HO3.out
        obtain ⟨hi0, hz0, hz1, hz2⟩ := HI.out
        clear hes hb3 hj
        go_wp2_with (first | refine wpList_build_one rfl 33 49 _ rfl es rfl Try.underlying33 14 (by decide) (by decide) (by kernel_rfl) HSZ.out ?_ | (at_builtin; refine wpList_append_elem rfl _ _ 33 rfl w.heap.size 49 i0 _ 14 56 Try.underlying33 hi0 hz0 hz1 hz2 rfl (by decide) v5 j ys rfl (HO4.out.alloc _) w3.heap.size 1 es 49 (0, 0) rfl (heap_alloc_new w3 _) HSZ.out HES.out.one (by unfold maxLen; omega) (by omega) (by have := HB3.out.size; simp; omega) ?_; intro v6 w6 hown6 hgrow6 _; have HOW6 := Lib.hid hown6; have HGW6 := Lib.hid hgrow6; clear hown6 hgrow6))
        have HTY : Hid (∀ (g : Nat) (C : Array Value) (t : TypeId) (fr : Nat × Nat), v5.ownBlock = some g → (w3.alloc (.cells es 49)).heap[g]? = some (.cells C t fr) → t ≠ 5 ∧ t ≠ 60) := fun g C t fr he hh => by
          have := ownk_type (HO4.out.alloc (.cells es 49)) he hh
          subst this
          decide
        have HB6 : Hid (Below w.heap.size w w6) := (HB3.out.alloc HB3.out.size _).grown HGW6.out (by have := HB3.out.size; simp; omega) fun g hg => (HO4.out.lt g hg).1
        have hkp : Keeps w3 w6 := (Keeps.below ((Below.refl w3.heap.size w3).alloc (Nat.le_refl _) (.cells es 49)) (Nat.le_refl _)).trans (Keeps.grown HGW6.out HTY.out)
        have HR6 : Hid (RowOf 14 (HkT w6) (ys ++ es.toList) (ageP (hs.take (k + 1)) now)) := by
          rw [HS2.out]
          exact (HR3.out.imp fun _ _ _ hp => hp.keeps hkp).append (RowOf.one (HES.out.keeps hkp) (by simpa using HSZ.out))
        have HO6 : Hid (w6.ownsRow w.heap.size 49 14 v6 (ageP (hs.take (k + 1)) now).length (ys ++ es.toList)) := by
          rw [HS2.out, List.length_append, HJ.out]
          exact HOW6.out
        clear hi0 hz0 hz1 hz2 hkp
        go_wp2
        go_roundw
        case rel => exact ⟨k + 1, ys ++ es.toList, by omega, by go_num, HO6, HR6, HB6⟩
        case measure => simp [intOf]; omega
      · have hsucc := HAS.out
        rw [ho, if_pos rfl, List.append_nil] at hsucc
        have HO3 : Hid (w2.ownsRow w.heap.size 49 14 v5 (ageP (hs.take (k + 1)) now).length ys) := by rw [hsucc]; exact HO2.out
        have HR3 : Hid (RowOf 14 (HkT w2) ys (ageP (hs.take (k + 1)) now)) := by rw [hsucc]; exact HR2.out
        clear hsucc ho
        go_wp2
        go_roundw
        case rel => exact ⟨k + 1, ys, by omega, by go_num, HO3, HR3, HB2⟩
        case measure => simp [intOf]; omega
    · obtain rfl : k = n := by omega
      have HE : Hid (hs.take k = hs) := List.take_of_length_le (Nat.le_of_eq HN.out)
      go_wp2
      go_ret
      refine ⟨v5, rfl, ⟨ys, ?_, ?_⟩, HBEL.out⟩
      · have := HOWN.out; rw [HE.out] at this; exact this
      · have := HRY.out; rw [HE.out] at this; exact this
end Go.Proofs.Ytogplhdcicajgaa
