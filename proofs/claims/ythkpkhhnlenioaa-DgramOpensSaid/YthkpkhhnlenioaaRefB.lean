/-
  The document's own answers for an Echo's and a Datagram's bytes (caravelref08.Echo, Datagram): what the plain functions give. Every one that can be read, every two hosts. No condition.
-/
import Derived.Test.YthkpkhhnlenioaaBack
namespace Go.Proofs.Ythkpkhhnlenioaa
open Go.RowKit

def TxtPost (w : World) (r : List UInt8 × Int) (e : Ending) (w' : World) : Prop := e = .returned (.tuple #[txt r.1, .int .i64 r.2]) ∧ Below w.heap.size w w'
theorem refec_long (b : Bool) (i s n c : Nat) (A : Option Addr) (w : World) (hl : 992 < n) (hm : n ≤ 9223372036854775807) :
    Calls Try.prog 12 #[.agg #[.bool b, .int .u16 (i : Int), .int .u16 (s : Int), .slice A n c]] w (TxtPost w ([], 4)) := by
  have HB := Lib.hid ((Below.refl w.heap.size w).alloc (Nat.le_refl _) (.cells #[.bool b, .int .u16 (i : Int), .int .u16 (s : Int), .slice A n c] 25))
  go_enter Try.func12, Try.ntmps12
  go_wp2
  go_ret2
  exact ⟨rfl, HB.out⟩
set_option maxRecDepth 100000 in
set_option maxHeartbeats 4000000 in
theorem refec_fits (cs : Array Value) (x : Ec) (lo hi : Nat) (w : World) (h : EcC w lo hi cs x) (hhi : hi ≤ w.heap.size) (hl : x.data.length ≤ 992) :
    Calls Try.prog 12 #[.agg cs] w (TxtPost w (x.bytes, 0)) := by
  obtain ⟨A, c, rfl, hok, hrd, hlc, hcm, hA⟩ := h
  obtain ⟨w1, hw1⟩ : ∃ w1, w.alloc (.cells #[.bool x.reply, .int .u16 (x.id : Int), .int .u16 (x.seq : Int), .slice A x.data.length c] 25) = w1 := ⟨_, rfl⟩
  have HB1 : Hid (Below w.heap.size w w1) := by show Below _ _ _; rw [← hw1]; exact (Below.refl _ _).alloc (Nat.le_refl _) _
  have hg1 : w1.heap[w.heap.size]? = some (.cells #[.bool x.reply, .int .u16 (x.id : Int), .int .u16 (x.seq : Int), .slice A x.data.length c] 25 (0, 0)) := by rw [← hw1]; exact heap_alloc_new w _
  have HRD := Lib.hid (hrd.below (B := w.heap.size) HB1.out hhi)
  have HHI := Lib.hid hhi
  have HBY : Hid (x.bytes = ecKind x ++ two (ecSum x) ++ ecTail x) := rfl
  have HSE : Hid (65535 - sumL (ecKind x ++ ecTail x) = ecSum x) := by show _ = _; rw [ec_bare]; rfl
  have HTL : Hid (ecTail x = two x.id ++ two x.seq ++ x.data) := rfl
  obtain ⟨bs, hbs⟩ : ∃ bs, x.bytes = bs := ⟨_, rfl⟩
  obtain ⟨S, hS⟩ : ∃ S, ecSum x = S := ⟨_, rfl⟩
  obtain ⟨tl, htl⟩ : ∃ tl, ecTail x = tl := ⟨_, rfl⟩
  have HS2 : Hid (S < 65536) := by show _ < _; rw [← hS]; unfold ecSum; omega
  have HTL2 : Hid (∀ k : UInt8, (k :: 0 :: tl).length ≤ 1000000) := fun k => by simp [← htl, ecTail, two_length]; omega
  rw [hS, htl] at HBY HSE
  rw [htl] at HTL
  rw [hbs] at HBY ⊢
  obtain ⟨kd, hkd⟩ : ∃ kd, ecKind x = kd := ⟨_, rfl⟩
  have HKX : Hid (ecKind x = [if x.reply then 0 else 8, 0]) := rfl
  rw [hkd] at HBY HSE HKX
  obtain ⟨hid, hsq⟩ := hok
  have HID := Lib.hid hid
  have HSQ := Lib.hid hsq
  have HIW : Hid (IntKind.i64.wrap (x.id : Int) = (x.id : Int)) := IntWalk.i64_in _ ⟨by omega, by omega⟩
  have HSW : Hid (IntKind.i64.wrap (x.seq : Int) = (x.seq : Int)) := IntWalk.i64_in _ ⟨by omega, by omega⟩
  clear hbs hS htl hkd hrd hhi hA hid hsq
  obtain ⟨reply, id, seq, data⟩ := x
  simp only at *
  obtain ⟨n, hn⟩ : ∃ n, data.length = n := ⟨_, rfl⟩
  rw [hn] at hl hlc hg1 hw1 ⊢
  have HN := Lib.hid hn
  have HCL : Hid (¬ 9223372036854775807 < (two id).length + (two seq).length + data.length) := by show ¬ _ < _; simp only [two_length]; omega
  have htl1 : tl.length ≤ 1000 := by have := HTL2.out 0; rw [HTL.out]; simp [two_length, hn]; omega
  have hts : (two S).length = 2 := rfl
  have FRT : Hid (Value.string ((⟨(two id).toArray⟩ : ByteArray) ++ ⟨(two seq).toArray⟩ ++ ⟨data.toArray⟩) = txt tl) := by
    show _ = _
    rw [ba_app, ba_app, HTL.out]
  have K1 : Hid (∀ w', Gro (fun _ => False) w1 w' → w'.cell? ⟨w.heap.size, 1, none⟩ = some (.int .u16 (id : Int))) := fun w' hg => cell_of_row _ _ 1 _ _ _ ((hg.block _ (row_lt hg1) (fun h => h)).trans hg1)
  have K2 : Hid (∀ w', Gro (fun _ => False) w1 w' → w'.cell? ⟨w.heap.size, 2, none⟩ = some (.int .u16 (seq : Int))) := fun w' hg => cell_of_row _ _ 2 _ _ _ ((hg.block _ (row_lt hg1) (fun h => h)).trans hg1)
  have K3 : Hid (∀ w', Gro (fun _ => False) w1 w' → w'.cell? ⟨w.heap.size, 3, none⟩ = some (.slice A n c)) := fun w' hg => cell_of_row _ _ 3 _ _ _ ((hg.block _ (row_lt hg1) (fun h => h)).trans hg1)
  have k0 : w1.cell? ⟨w.heap.size, 0, none⟩ = some (.bool reply) := cell_of_row _ _ 0 _ _ _ hg1
  have k3 : w1.cell? ⟨w.heap.size, 3, none⟩ = some (.slice A n c) := cell_of_row _ _ 3 _ _ _ hg1
  have HW1 : Hid (w.heap.size < w1.heap.size) := row_lt hg1
  have HRB : Hid (∀ w', Gro (fun _ => False) w1 w' → Rd w' 0 w'.heap.size A (cells data)) := fun w' hg => (HRD.out.below hg.belowF (by have := HHI.out; have := HW1.out; omega)).wide (Nat.zero_le _) (by have := HHI.out; have := HW1.out; have := hg.size; omega)
  clear hg1 hn
  go_enter Try.func12, Try.ntmps12
  cases reply
  · have HKD : Hid (kd = [8, 0]) := HKX.out
    have HC3 : ((⟨#[8, 0]⟩ : ByteArray) ++ ⟨tl.toArray⟩) = ⟨(8 :: 0 :: tl).toArray⟩ := ba_app [8, 0] tl
    have HC4 : ((⟨#[8, 0]⟩ : ByteArray) ++ ⟨(two S).toArray⟩) = ⟨(8 :: 0 :: two S).toArray⟩ := ba_app [8, 0] (two S)
    have HC5 : ((⟨(8 :: 0 :: two S).toArray⟩ : ByteArray) ++ ⟨tl.toArray⟩) = ⟨bs.toArray⟩ := by rw [ba_app (8 :: 0 :: two S) tl, HBY.out, HKD.out]; rfl
    have HSU : Hid (65535 - sumL (8 :: 0 :: tl) = S) := by
      have h1 := HSE.out
      rw [HKD.out] at h1
      exact h1
    have HC3h := Lib.hid HC3
    have HC4h := Lib.hid HC4
    have HC5h := Lib.hid HC5
    clear HC3 HC4 HC5
    go_wp2_with fail
    clear hw1 k0 k3
    apply wp_region_rely (fun _ => False) (RL [Is _, Is _, Is _, Is (txt (two id)), Is _, Is _, Is _, Is (txt (two seq)), Is _, Is _, Is _, Is (txt data), Is (txt tl), Is (.string ⟨tl.toArray⟩)]) [false, false, false, false, false, true, false, false, false, false, false, false, true, true, true, true, true, true, true, true, true, true, true, true, true, false, false, false, false, false, false, false, false, false, false]
    · kernel_rfl
    · kernel_rfl
    · kernel_rfl
    · refine ⟨?_, ?_, ?_, ?_, ?_, ?_, ?_, ?_, ?_, ?_, ?_, ?_, ?_, ?_, trivial⟩
      · intro ev w' hC hc hf hb hr K hK
        have e1 : ev (.tmp 1) = _ := hb 1 (by kernel_rfl)
        have HK := Lib.hid hK
        have HC := Lib.hid hC
        clear hb hr hK hC hf
        unfold Run
        simp [execOp, Upon, go_sem, *]
        exact HK.out _ _ (.inl (Below.refl _ _)) rfl
      · intro ev w' hC hc hf hb hr K hK
        have e12 := hr 0 _ rfl (by kernel_rfl)
        change ev (.tmp 12) = _ at e12
        have HK := Lib.hid hK
        have HC := Lib.hid hC
        clear hb hr hK hC hf
        have c1 := K1.out w' HC.out
        unfold Run
        simp [execOp, Upon, go_sem, *]
        exact HK.out _ _ (.inl (Below.refl _ _)) rfl
      · intro ev w' hC hc hf hb hr K hK
        have e13 := hr 1 _ rfl (by kernel_rfl)
        change ev (.tmp 13) = _ at e13
        have HK := Lib.hid hK
        have HC := Lib.hid hC
        clear hb hr hK hC hf
        have hid := HID.out
        have hw := HIW.out
        unfold Run
        simp [execOp, Upon, go_sem, *]
        exact HK.out _ _ (.inl (Below.refl _ _)) rfl
      · intro ev w' hC hc hf hb hr K hK
        have e14 := hr 2 _ rfl (by kernel_rfl)
        change ev (.tmp 14) = _ at e14
        have HK := Lib.hid hK
        have HC := Lib.hid hC
        clear hb hr hK hC
        unfold Run
        simp [execOp, Upon, go_sem, *]
        refine (refword_all id _ (by have := HID.out; omega)).mono ?_
        rintro e w2 ⟨rfl, hb⟩
        exact ⟨_, rfl, HK.out _ _ (.inl hb) rfl⟩
      · intro ev w' hC hc hf hb hr K hK
        have e1 : ev (.tmp 1) = _ := hb 1 (by kernel_rfl)
        have HK := Lib.hid hK
        have HC := Lib.hid hC
        clear hb hr hK hC hf
        unfold Run
        simp [execOp, Upon, go_sem, *]
        exact HK.out _ _ (.inl (Below.refl _ _)) rfl
      · intro ev w' hC hc hf hb hr K hK
        have e16 := hr 4 _ rfl (by kernel_rfl)
        change ev (.tmp 16) = _ at e16
        have HK := Lib.hid hK
        have HC := Lib.hid hC
        clear hb hr hK hC hf
        have c2 := K2.out w' HC.out
        unfold Run
        simp [execOp, Upon, go_sem, *]
        exact HK.out _ _ (.inl (Below.refl _ _)) rfl
      · intro ev w' hC hc hf hb hr K hK
        have e17 := hr 5 _ rfl (by kernel_rfl)
        change ev (.tmp 17) = _ at e17
        have HK := Lib.hid hK
        have HC := Lib.hid hC
        clear hb hr hK hC hf
        have hsq := HSQ.out
        have hw := HSW.out
        unfold Run
        simp [execOp, Upon, go_sem, *]
        exact HK.out _ _ (.inl (Below.refl _ _)) rfl
      · intro ev w' hC hc hf hb hr K hK
        have e18 := hr 6 _ rfl (by kernel_rfl)
        change ev (.tmp 18) = _ at e18
        have HK := Lib.hid hK
        have HC := Lib.hid hC
        clear hb hr hK hC
        unfold Run
        simp [execOp, Upon, go_sem, *]
        refine (refword_all seq _ (by have := HSQ.out; omega)).mono ?_
        rintro e w2 ⟨rfl, hb⟩
        exact ⟨_, rfl, HK.out _ _ (.inl hb) rfl⟩
      · intro ev w' hC hc hf hb hr K hK
        have e15 := hr 3 _ rfl (by kernel_rfl)
        have e19 := hr 7 _ rfl (by kernel_rfl)
        change ev (.tmp 15) = _ at e15
        change ev (.tmp 19) = _ at e19
        have HK := Lib.hid hK
        have HC := Lib.hid hC
        clear hb hr hK hC hf
        unfold Run
        simp [execOp, Upon, go_sem, *]
        exact HK.out _ _ (.inl (Below.refl _ _)) rfl
      · intro ev w' hC hc hf hb hr K hK
        have e1 : ev (.tmp 1) = _ := hb 1 (by kernel_rfl)
        have HK := Lib.hid hK
        have HC := Lib.hid hC
        clear hb hr hK hC hf
        unfold Run
        simp [execOp, Upon, go_sem, *]
        exact HK.out _ _ (.inl (Below.refl _ _)) rfl
      · intro ev w' hC hc hf hb hr K hK
        have e21 := hr 9 _ rfl (by kernel_rfl)
        change ev (.tmp 21) = _ at e21
        have HK := Lib.hid hK
        have HC := Lib.hid hC
        clear hb hr hK hC hf
        have c3 := K3.out w' HC.out
        unfold Run
        simp [execOp, Upon, go_sem, *]
        exact HK.out _ _ (.inl (Below.refl _ _)) rfl
      · intro ev w' hC hc hf hb hr K hK
        have e22 := hr 10 _ rfl (by kernel_rfl)
        change ev (.tmp 22) = _ at e22
        have HK := Lib.hid hK
        have HC := Lib.hid hC
        clear hb hr hK hC hf
        have kt := run_text (P := Try.prog) w' 23 9 5 c Try.underlying23 Try.underlying5 Try.underlying9 (HRB.out w' HC.out)
        rw [HN.out] at kt
        unfold Run
        simp [execOp, Upon, go_sem, *]
        exact HK.out _ _ (.inl (Below.refl _ _)) rfl
      · intro ev w' hC hc hf hb hr K hK
        have e20 := hr 8 _ rfl (by kernel_rfl)
        have e23 := hr 11 _ rfl (by kernel_rfl)
        change ev (.tmp 20) = _ at e20
        change ev (.tmp 23) = _ at e23
        have HK := Lib.hid hK
        have HC := Lib.hid hC
        clear hb hr hK hC hf
        have hcl := HCL.out
        unfold Run
        simp [execOp, Upon, go_sem, *]
        exact HK.out _ _ (.inl (Below.refl _ _)) (by show _ = _; first | done | exact FRT.out)
      · intro ev w' hC hc hf hb hr K hK
        have e24 := hr 12 _ rfl (by kernel_rfl)
        change ev (.tmp 24) = _ at e24
        have HK := Lib.hid hK
        have HC := Lib.hid hC
        clear hb hr hK hC hf
        unfold Run
        simp [execOp, Upon, go_sem, *]
        exact HK.out _ _ (.inl (Below.refl _ _)) rfl
    · exact rl_mono ⟨is_mono _, is_mono _, is_mono _, is_mono _, is_mono _, is_mono _, is_mono _, is_mono _, is_mono _, is_mono _, is_mono _, is_mono _, is_mono _, is_mono _, trivial⟩
    intro us wr hG hH
    obtain ⟨-, -, -, -, -, -, -, -, -, -, -, -, -, h13, -⟩ := hH
    simp only [fillM]
    change us 5 = _ at h13
    rw [h13]
    clear h13
    generalize us 12 = v12
    generalize us 13 = v13
    generalize us 14 = v14
    generalize us 15 = v15
    generalize us 16 = v16
    generalize us 17 = v17
    generalize us 18 = v18
    generalize us 19 = v19
    generalize us 20 = v20
    generalize us 21 = v21
    generalize us 22 = v22
    generalize us 23 = v23
    generalize us 24 = v24
    have HB2 := Lib.hid (HB1.out.trans (hG.belowF.mono HB1.out.size))
    have HC3 := HC3h.out
    have HC4 := HC4h.out
    have HC5 := HC5h.out
    clear hG HC3h HC4h HC5h
    go_wp2_with fail
    refine (refsum_any (8 :: 0 :: tl) wr (HTL2.out 8)).mono ?_
    rw [HSU.out]
    rintro e w2 ⟨rfl, rfl⟩
    have hS2 := HS2.out
    go_wp2_with fail
    refine (refword_all S _ (by omega)).mono ?_
    rintro e w3 ⟨rfl, hb3⟩
    have HB3 := Lib.hid (HB2.out.trans (hb3.mono HB2.out.size))
    clear hb3
    go_wp2
    go_ret2
    exact ⟨rfl, HB3.out⟩
  · have HKD : Hid (kd = [0, 0]) := HKX.out
    have HC3 : ((⟨#[0, 0]⟩ : ByteArray) ++ ⟨tl.toArray⟩) = ⟨(0 :: 0 :: tl).toArray⟩ := ba_app [0, 0] tl
    have HC4 : ((⟨#[0, 0]⟩ : ByteArray) ++ ⟨(two S).toArray⟩) = ⟨(0 :: 0 :: two S).toArray⟩ := ba_app [0, 0] (two S)
    have HC5 : ((⟨(0 :: 0 :: two S).toArray⟩ : ByteArray) ++ ⟨tl.toArray⟩) = ⟨bs.toArray⟩ := by rw [ba_app (0 :: 0 :: two S) tl, HBY.out, HKD.out]; rfl
    have HSU : Hid (65535 - sumL (0 :: 0 :: tl) = S) := by
      have h1 := HSE.out
      rw [HKD.out] at h1
      exact h1
    have HC3h := Lib.hid HC3
    have HC4h := Lib.hid HC4
    have HC5h := Lib.hid HC5
    clear HC3 HC4 HC5
    go_wp2_with fail
    clear hw1 k0 k3
    apply wp_region_rely (fun _ => False) (RL [Is _, Is _, Is _, Is (txt (two id)), Is _, Is _, Is _, Is (txt (two seq)), Is _, Is _, Is _, Is (txt data), Is (txt tl), Is (.string ⟨tl.toArray⟩)]) [false, false, false, false, false, true, false, false, false, false, false, false, true, true, true, true, true, true, true, true, true, true, true, true, true, false, false, false, false, false, false, false, false, false, false]
    · kernel_rfl
    · kernel_rfl
    · kernel_rfl
    · refine ⟨?_, ?_, ?_, ?_, ?_, ?_, ?_, ?_, ?_, ?_, ?_, ?_, ?_, ?_, trivial⟩
      · intro ev w' hC hc hf hb hr K hK
        have e1 : ev (.tmp 1) = _ := hb 1 (by kernel_rfl)
        have HK := Lib.hid hK
        have HC := Lib.hid hC
        clear hb hr hK hC hf
        unfold Run
        simp [execOp, Upon, go_sem, *]
        exact HK.out _ _ (.inl (Below.refl _ _)) rfl
      · intro ev w' hC hc hf hb hr K hK
        have e12 := hr 0 _ rfl (by kernel_rfl)
        change ev (.tmp 12) = _ at e12
        have HK := Lib.hid hK
        have HC := Lib.hid hC
        clear hb hr hK hC hf
        have c1 := K1.out w' HC.out
        unfold Run
        simp [execOp, Upon, go_sem, *]
        exact HK.out _ _ (.inl (Below.refl _ _)) rfl
      · intro ev w' hC hc hf hb hr K hK
        have e13 := hr 1 _ rfl (by kernel_rfl)
        change ev (.tmp 13) = _ at e13
        have HK := Lib.hid hK
        have HC := Lib.hid hC
        clear hb hr hK hC hf
        have hid := HID.out
        have hw := HIW.out
        unfold Run
        simp [execOp, Upon, go_sem, *]
        exact HK.out _ _ (.inl (Below.refl _ _)) rfl
      · intro ev w' hC hc hf hb hr K hK
        have e14 := hr 2 _ rfl (by kernel_rfl)
        change ev (.tmp 14) = _ at e14
        have HK := Lib.hid hK
        have HC := Lib.hid hC
        clear hb hr hK hC
        unfold Run
        simp [execOp, Upon, go_sem, *]
        refine (refword_all id _ (by have := HID.out; omega)).mono ?_
        rintro e w2 ⟨rfl, hb⟩
        exact ⟨_, rfl, HK.out _ _ (.inl hb) rfl⟩
      · intro ev w' hC hc hf hb hr K hK
        have e1 : ev (.tmp 1) = _ := hb 1 (by kernel_rfl)
        have HK := Lib.hid hK
        have HC := Lib.hid hC
        clear hb hr hK hC hf
        unfold Run
        simp [execOp, Upon, go_sem, *]
        exact HK.out _ _ (.inl (Below.refl _ _)) rfl
      · intro ev w' hC hc hf hb hr K hK
        have e16 := hr 4 _ rfl (by kernel_rfl)
        change ev (.tmp 16) = _ at e16
        have HK := Lib.hid hK
        have HC := Lib.hid hC
        clear hb hr hK hC hf
        have c2 := K2.out w' HC.out
        unfold Run
        simp [execOp, Upon, go_sem, *]
        exact HK.out _ _ (.inl (Below.refl _ _)) rfl
      · intro ev w' hC hc hf hb hr K hK
        have e17 := hr 5 _ rfl (by kernel_rfl)
        change ev (.tmp 17) = _ at e17
        have HK := Lib.hid hK
        have HC := Lib.hid hC
        clear hb hr hK hC hf
        have hsq := HSQ.out
        have hw := HSW.out
        unfold Run
        simp [execOp, Upon, go_sem, *]
        exact HK.out _ _ (.inl (Below.refl _ _)) rfl
      · intro ev w' hC hc hf hb hr K hK
        have e18 := hr 6 _ rfl (by kernel_rfl)
        change ev (.tmp 18) = _ at e18
        have HK := Lib.hid hK
        have HC := Lib.hid hC
        clear hb hr hK hC
        unfold Run
        simp [execOp, Upon, go_sem, *]
        refine (refword_all seq _ (by have := HSQ.out; omega)).mono ?_
        rintro e w2 ⟨rfl, hb⟩
        exact ⟨_, rfl, HK.out _ _ (.inl hb) rfl⟩
      · intro ev w' hC hc hf hb hr K hK
        have e15 := hr 3 _ rfl (by kernel_rfl)
        have e19 := hr 7 _ rfl (by kernel_rfl)
        change ev (.tmp 15) = _ at e15
        change ev (.tmp 19) = _ at e19
        have HK := Lib.hid hK
        have HC := Lib.hid hC
        clear hb hr hK hC hf
        unfold Run
        simp [execOp, Upon, go_sem, *]
        exact HK.out _ _ (.inl (Below.refl _ _)) rfl
      · intro ev w' hC hc hf hb hr K hK
        have e1 : ev (.tmp 1) = _ := hb 1 (by kernel_rfl)
        have HK := Lib.hid hK
        have HC := Lib.hid hC
        clear hb hr hK hC hf
        unfold Run
        simp [execOp, Upon, go_sem, *]
        exact HK.out _ _ (.inl (Below.refl _ _)) rfl
      · intro ev w' hC hc hf hb hr K hK
        have e21 := hr 9 _ rfl (by kernel_rfl)
        change ev (.tmp 21) = _ at e21
        have HK := Lib.hid hK
        have HC := Lib.hid hC
        clear hb hr hK hC hf
        have c3 := K3.out w' HC.out
        unfold Run
        simp [execOp, Upon, go_sem, *]
        exact HK.out _ _ (.inl (Below.refl _ _)) rfl
      · intro ev w' hC hc hf hb hr K hK
        have e22 := hr 10 _ rfl (by kernel_rfl)
        change ev (.tmp 22) = _ at e22
        have HK := Lib.hid hK
        have HC := Lib.hid hC
        clear hb hr hK hC hf
        have kt := run_text (P := Try.prog) w' 23 9 5 c Try.underlying23 Try.underlying5 Try.underlying9 (HRB.out w' HC.out)
        rw [HN.out] at kt
        unfold Run
        simp [execOp, Upon, go_sem, *]
        exact HK.out _ _ (.inl (Below.refl _ _)) rfl
      · intro ev w' hC hc hf hb hr K hK
        have e20 := hr 8 _ rfl (by kernel_rfl)
        have e23 := hr 11 _ rfl (by kernel_rfl)
        change ev (.tmp 20) = _ at e20
        change ev (.tmp 23) = _ at e23
        have HK := Lib.hid hK
        have HC := Lib.hid hC
        clear hb hr hK hC hf
        have hcl := HCL.out
        unfold Run
        simp [execOp, Upon, go_sem, *]
        exact HK.out _ _ (.inl (Below.refl _ _)) (by show _ = _; first | done | exact FRT.out)
      · intro ev w' hC hc hf hb hr K hK
        have e24 := hr 12 _ rfl (by kernel_rfl)
        change ev (.tmp 24) = _ at e24
        have HK := Lib.hid hK
        have HC := Lib.hid hC
        clear hb hr hK hC hf
        unfold Run
        simp [execOp, Upon, go_sem, *]
        exact HK.out _ _ (.inl (Below.refl _ _)) rfl
    · exact rl_mono ⟨is_mono _, is_mono _, is_mono _, is_mono _, is_mono _, is_mono _, is_mono _, is_mono _, is_mono _, is_mono _, is_mono _, is_mono _, is_mono _, is_mono _, trivial⟩
    intro us wr hG hH
    obtain ⟨-, -, -, -, -, -, -, -, -, -, -, -, -, h13, -⟩ := hH
    simp only [fillM]
    change us 5 = _ at h13
    rw [h13]
    clear h13
    generalize us 12 = v12
    generalize us 13 = v13
    generalize us 14 = v14
    generalize us 15 = v15
    generalize us 16 = v16
    generalize us 17 = v17
    generalize us 18 = v18
    generalize us 19 = v19
    generalize us 20 = v20
    generalize us 21 = v21
    generalize us 22 = v22
    generalize us 23 = v23
    generalize us 24 = v24
    have HB2 := Lib.hid (HB1.out.trans (hG.belowF.mono HB1.out.size))
    have HC3 := HC3h.out
    have HC4 := HC4h.out
    have HC5 := HC5h.out
    clear hG HC3h HC4h HC5h
    go_wp2_with fail
    refine (refsum_any (0 :: 0 :: tl) wr (HTL2.out 0)).mono ?_
    rw [HSU.out]
    rintro e w2 ⟨rfl, rfl⟩
    have hS2 := HS2.out
    go_wp2_with fail
    refine (refword_all S _ (by omega)).mono ?_
    rintro e w3 ⟨rfl, hb3⟩
    have HB3 := Lib.hid (HB2.out.trans (hb3.mono HB2.out.size))
    clear hb3
    go_wp2
    go_ret2
    exact ⟨rfl, HB3.out⟩
theorem refec_any (cs : Array Value) (x : Ec) (lo hi : Nat) (w : World) (h : EcC w lo hi cs x) (hhi : hi ≤ w.heap.size) :
    Calls Try.prog 12 #[.agg cs] w (TxtPost w (ecBuild x)) := by
  unfold ecBuild
  by_cases hl : 992 < x.data.length
  · rw [if_pos hl]
    obtain ⟨A, c, rfl, _, _, hlc, hcm, _⟩ := h
    exact refec_long _ _ _ _ c A w hl (by unfold maxLen at hcm; omega)
  · rw [if_neg hl]
    exact refec_fits cs x lo hi w h hhi (by omega)
end Go.Proofs.Ythkpkhhnlenioaa
