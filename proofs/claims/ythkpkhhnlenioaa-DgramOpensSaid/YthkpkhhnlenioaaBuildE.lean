/-
  dgram.buildEcho: ErrLong of more than 992 bytes of data, else its bytes in a row of the call's own. Every one that can be read. No condition.
-/
import Derived.Test.YthkpkhhnlenioaaCopy2
namespace Go.Proofs.Ythkpkhhnlenioaa
open Go.RowKit

set_option maxHeartbeats 400000 in
theorem bec_long (b : Bool) (i s n c : Nat) (A : Option Addr) (w : World) (hl : 992 < n) (hm : n ≤ 9223372036854775807) :
    Calls Try.prog 27 #[.agg #[.bool b, .int .u16 (i : Int), .int .u16 (s : Int), .slice A n c]] w (OwnPost w ([], 4)) := by
  have HB := Lib.hid ((Below.refl w.heap.size w).alloc (Nat.le_refl _) (.cells #[.bool b, .int .u16 (i : Int), .int .u16 (s : Int), .slice A n c] 25))
  have HLG := Lib.hid (long_any A n c (w.alloc (.cells #[.bool b, .int .u16 (i : Int), .int .u16 (s : Int), .slice A n c] 25)) hm)
  have HD : Hid (decide (992 < n) = true) := decide_eq_true hl
  go_enter Try.func27, Try.ntmps27
  go_wp2_with fail
  refine HLG.out.mono ?_
  rw [HD.out]
  rintro e w1 ⟨rfl, rfl⟩
  go_wp2
  go_ret2
  exact own_none rfl HB.out
set_option maxRecDepth 100000 in
set_option maxHeartbeats 4000000 in
theorem bec_fits (cs : Array Value) (x : Ec) (lo hi : Nat) (w : World) (h : EcC w lo hi cs x) (hhi : hi ≤ w.heap.size) (hl : x.data.length ≤ 992) :
    Calls Try.prog 27 #[.agg cs] w (OwnPost w (x.bytes, 0)) := by
  obtain ⟨A, c, rfl, hok, hrd, hlc, hcm, hA⟩ := h
  obtain ⟨w1, hw1⟩ : ∃ w1, w.alloc (.cells #[.bool x.reply, .int .u16 (x.id : Int), .int .u16 (x.seq : Int), .slice A x.data.length c] 25) = w1 := ⟨_, rfl⟩
  have HB1 : Hid (Below w.heap.size w w1) := by show Below _ _ _; rw [← hw1]; exact (Below.refl _ _).alloc (Nat.le_refl _) _
  have hg1 : w1.heap[w.heap.size]? = some (.cells #[.bool x.reply, .int .u16 (x.id : Int), .int .u16 (x.seq : Int), .slice A x.data.length c] 25 (0, 0)) := by rw [← hw1]; exact heap_alloc_new w _
  have HLG := Lib.hid (long_any A x.data.length c w1 (by omega))
  have HD : Hid (decide (992 < x.data.length) = false) := decide_eq_false (by omega)
  have HRD := Lib.hid (hrd.below (B := w.heap.size) HB1.out hhi)
  have HHI := Lib.hid hhi
  have HAN := Lib.hid hA
  have HBL0 := ec_length x
  have HBY : Hid (x.bytes = ecKind x ++ two (ecSum x) ++ ecTail x) := rfl
  have HSE : Hid (ecSum x = 65535 - sumL (ecKind x ++ two 0 ++ ecTail x)) := rfl
  have HTL : Hid (ecTail x = two x.id ++ two x.seq ++ x.data) := rfl
  have HKD : Hid (ecKind x = [if x.reply then 0 else 8, 0]) := rfl
  obtain ⟨bs, hbs⟩ : ∃ bs, x.bytes = bs := ⟨_, rfl⟩
  obtain ⟨S, hS⟩ : ∃ S, ecSum x = S := ⟨_, rfl⟩
  have hS2 : S < 65536 := by rw [← hS, HSE.out]; omega
  have HS2 := Lib.hid hS2
  rw [hS] at HBY HSE
  rw [hbs] at HBY HBL0
  rw [hbs]
  obtain ⟨hid, hsq⟩ := hok
  have HID := Lib.hid hid
  have HSQ := Lib.hid hsq
  clear hbs hS hrd hhi hA hid hsq
  obtain ⟨reply, id, seq, data⟩ := x
  simp only at *
  obtain ⟨n, hn⟩ : ∃ n, data.length = n := ⟨_, rfl⟩
  rw [hn] at hl hlc hg1 HBL0 HLG HD hw1 ⊢
  have HN := Lib.hid hn
  have HBLEN := Lib.hid HBL0
  obtain ⟨b0, hb0⟩ : ∃ b0, ecKind ⟨reply, id, seq, data⟩ ++ two 0 ++ ecTail ⟨reply, id, seq, data⟩ = b0 := ⟨_, rfl⟩
  have HB10 : Hid (b0 = ecKind ⟨reply, id, seq, data⟩ ++ (two 0 ++ ecTail ⟨reply, id, seq, data⟩)) := by show _ = _; rw [← hb0, List.append_assoc]
  have HBZ : Hid (bs = ecKind ⟨reply, id, seq, data⟩ ++ (two S ++ ecTail ⟨reply, id, seq, data⟩)) := by show _ = _; rw [HBY.out, List.append_assoc]
  have HHD : Hid ((ecKind ⟨reply, id, seq, data⟩).length = 2) := rfl
  rw [hb0] at HSE
  have HLB : Hid (b0.length = 8 + n) := by show _ = _; rw [HB10.out, HTL.out, HKD.out]; simp [two_length, hn]; omega
  have HBL : Hid (b0.length ≤ 1000000000) := by show _ ≤ _; rw [HLB.out]; omega
  have HFLK : Hid (∀ k : UInt8, ecKind ⟨reply, id, seq, data⟩ = [k, 0] → [[k, 0], two 0, two id, two seq, data].flatten = b0) := fun k hk => by rw [HB10.out, hk, HTL.out]; simp
  have K1 : Hid (∀ w', Gro (fun _ => False) w1 w' → w'.cell? ⟨w.heap.size, 1, none⟩ = some (.int .u16 (id : Int))) := fun w' hg => cell_of_row _ _ 1 _ _ _ ((hg.block _ (row_lt hg1) (fun h => h)).trans hg1)
  have K2 : Hid (∀ w', Gro (fun _ => False) w1 w' → w'.cell? ⟨w.heap.size, 2, none⟩ = some (.int .u16 (seq : Int))) := fun w' hg => cell_of_row _ _ 2 _ _ _ ((hg.block _ (row_lt hg1) (fun h => h)).trans hg1)
  have K3 : Hid (∀ w', Gro (fun _ => False) w1 w' → w'.cell? ⟨w.heap.size, 3, none⟩ = some (.slice A n c)) := fun w' hg => cell_of_row _ _ 3 _ _ _ ((hg.block _ (row_lt hg1) (fun h => h)).trans hg1)
  have k0 : w1.cell? ⟨w.heap.size, 0, none⟩ = some (.bool reply) := cell_of_row _ _ 0 _ _ _ hg1
  have k3 : w1.cell? ⟨w.heap.size, 3, none⟩ = some (.slice A n c) := cell_of_row _ _ 3 _ _ _ hg1
  have HW1 : Hid (w.heap.size < w1.heap.size) := row_lt hg1
  have HRB : Hid (∀ w', Gro (fun _ => False) w1 w' → Rd w' 0 w'.heap.size A (cells data)) := fun w' hg => (HRD.out.below hg.belowF (by have := HHI.out; have := HW1.out; omega)).wide (Nat.zero_le _) (by have := HHI.out; have := HW1.out; have := hg.size; omega)
  clear hg1 HBL0 hb0 hn
  go_enter Try.func27, Try.ntmps27
  go_wp2_with fail
  refine HLG.out.mono ?_
  rw [HD.out]
  rintro e w' ⟨rfl, rfl⟩
  cases reply
  · go_wp2_with fail
    have HFL := Lib.hid (HFLK.out 8 rfl)
    clear hw1 k0 k3
    apply wp_region_rely (fun _ => False) (RL [Is _, Fresh w1.heap.size [8, 0], Fresh w1.heap.size (two 0), Is _, Is _, Fresh w1.heap.size (two id), Is _, Is _, Fresh w1.heap.size (two seq), Is _, Is _, Lists [[8, 0], two 0, two id, two seq, data], Owned w1.heap.size b0, Owned w1.heap.size b0]) [false, false, false, false, false, true, false, false, false, false, false, true, true, true, true, true, true, true, true, true, true, true, true, true, false, false, false, false, false, false, false, false]
    · kernel_rfl
    · kernel_rfl
    · kernel_rfl
    · refine ⟨?_, ?_, ?_, ?_, ?_, ?_, ?_, ?_, ?_, ?_, ?_, ?_, ?_, ?_, trivial⟩
      · intro ev w' hC hc hf hb hr K hK
        have e4 : ev (.tmp 4) = _ := hb 4 (by kernel_rfl)
        have HK := Lib.hid hK
        have HC := Lib.hid hC
        clear hb hr hK hC hf
        unfold Run
        simp [execOp, Upon, go_sem, *]
        exact HK.out _ _ (.inl (Below.refl _ _)) rfl
      · intro ev w' hC hc hf hb hr K hK
        have e11 := hr 0 _ rfl (by kernel_rfl)
        change ev (.tmp 11) = _ at e11
        have HK := Lib.hid hK
        have HC := Lib.hid hC
        clear hb hr hK hC hf
        unfold Run
        simp [execOp, Upon, go_sem, *]
        exact HK.out _ _ (.inl ((Below.refl _ _).alloc (Nat.le_refl _) _)) ⟨some ⟨w'.heap.size, 0, none⟩, 2, rfl, by rw [World.size_alloc]; exact (rd_new w' (cells [8, 0]) 5 (0, 0)).wide HC.out.size (Nat.le_refl _), (fun h => by cases h), Nat.le_refl _, (by unfold maxLen; simp)⟩
      · intro ev w' hC hc hf hb hr K hK
        have HK := Lib.hid hK
        have HC := Lib.hid hC
        clear hb hr hK hC
        unfold Run
        simp [execOp, Upon, go_sem, *]
        refine (dpair_any 0 _ (by decide)).mono ?_
        rintro e w2 ⟨v, rfl, hf, hb⟩
        exact ⟨v, rfl, HK.out _ _ (.inl hb) (hf.wide HC.out.size)⟩
      · intro ev w' hC hc hf hb hr K hK
        have e1 : ev (.tmp 1) = _ := hb 1 (by kernel_rfl)
        have HK := Lib.hid hK
        have HC := Lib.hid hC
        clear hb hr hK hC hf
        unfold Run
        simp [execOp, Upon, go_sem, *]
        exact HK.out _ _ (.inl (Below.refl _ _)) rfl
      · intro ev w' hC hc hf hb hr K hK
        have e14 := hr 3 _ rfl (by kernel_rfl)
        change ev (.tmp 14) = _ at e14
        have HK := Lib.hid hK
        have HC := Lib.hid hC
        clear hb hr hK hC hf
        have c1 := K1.out w' HC.out
        unfold Run
        simp [execOp, Upon, go_sem, *]
        exact HK.out _ _ (.inl (Below.refl _ _)) rfl
      · intro ev w' hC hc hf hb hr K hK
        have e15 := hr 4 _ rfl (by kernel_rfl)
        change ev (.tmp 15) = _ at e15
        have HK := Lib.hid hK
        have HC := Lib.hid hC
        clear hb hr hK hC
        unfold Run
        simp [execOp, Upon, go_sem, *]
        refine (dpair_any id _ HID.out).mono ?_
        rintro e w2 ⟨v, rfl, hf, hb⟩
        exact ⟨v, rfl, HK.out _ _ (.inl hb) (hf.wide HC.out.size)⟩
      · intro ev w' hC hc hf hb hr K hK
        have e1 : ev (.tmp 1) = _ := hb 1 (by kernel_rfl)
        have HK := Lib.hid hK
        have HC := Lib.hid hC
        clear hb hr hK hC hf
        unfold Run
        simp [execOp, Upon, go_sem, *]
        exact HK.out _ _ (.inl (Below.refl _ _)) rfl
      · intro ev w' hC hc hf hb hr K hK
        have e17 := hr 6 _ rfl (by kernel_rfl)
        change ev (.tmp 17) = _ at e17
        have HK := Lib.hid hK
        have HC := Lib.hid hC
        clear hb hr hK hC hf
        have c2 := K2.out w' HC.out
        unfold Run
        simp [execOp, Upon, go_sem, *]
        exact HK.out _ _ (.inl (Below.refl _ _)) rfl
      · intro ev w' hC hc hf hb hr K hK
        have e18 := hr 7 _ rfl (by kernel_rfl)
        change ev (.tmp 18) = _ at e18
        have HK := Lib.hid hK
        have HC := Lib.hid hC
        clear hb hr hK hC
        unfold Run
        simp [execOp, Upon, go_sem, *]
        refine (dpair_any seq _ HSQ.out).mono ?_
        rintro e w2 ⟨v, rfl, hf, hb⟩
        exact ⟨v, rfl, HK.out _ _ (.inl hb) (hf.wide HC.out.size)⟩
      · intro ev w' hC hc hf hb hr K hK
        have e1 : ev (.tmp 1) = _ := hb 1 (by kernel_rfl)
        have HK := Lib.hid hK
        have HC := Lib.hid hC
        clear hb hr hK hC hf
        unfold Run
        simp [execOp, Upon, go_sem, *]
        exact HK.out _ _ (.inl (Below.refl _ _)) rfl
      · intro ev w' hC hc hf hb hr K hK
        have e20 := hr 9 _ rfl (by kernel_rfl)
        change ev (.tmp 20) = _ at e20
        have HK := Lib.hid hK
        have HC := Lib.hid hC
        clear hb hr hK hC hf
        have c3 := K3.out w' HC.out
        unfold Run
        simp [execOp, Upon, go_sem, *]
        exact HK.out _ _ (.inl (Below.refl _ _)) rfl
      · intro ev w' hC hc hf hb hr K hK
        have e12 := hr 1 _ rfl (by kernel_rfl)
        have e13 := hr 2 _ rfl (by kernel_rfl)
        have e16 := hr 5 _ rfl (by kernel_rfl)
        have e19 := hr 8 _ rfl (by kernel_rfl)
        have e21 := hr 10 _ rfl (by kernel_rfl)
        change (Fresh w1.heap.size [8, 0] : Pred) (ev (.tmp 12)) _ at e12
        change (Fresh w1.heap.size (two 0) : Pred) (ev (.tmp 13)) _ at e13
        change (Fresh w1.heap.size (two id) : Pred) (ev (.tmp 16)) _ at e16
        change (Fresh w1.heap.size (two seq) : Pred) (ev (.tmp 19)) _ at e19
        change ev (.tmp 21) = _ at e21
        have HK := Lib.hid hK
        have HC := Lib.hid hC
        clear hb hr hK hC hf
        have HDA := Lib.hid (HRB.out w' HC.out)
        obtain ⟨A12, c12, q12, r12, z12, _⟩ := e12
        obtain ⟨A13, c13, q13, r13, z13, _⟩ := e13
        obtain ⟨A16, c16, q16, r16, z16, _⟩ := e16
        obtain ⟨A19, c19, q19, r19, z19, _⟩ := e19
        have hb0 : Bits w' 0 w'.heap.size [.slice A n c] [data] := by
          have := Bits.cons (lo := 0) (hi := w'.heap.size) HDA.out HAN.out (Bits.nil (w := w'))
          rwa [HN.out] at this
        have hb3 := (fresh_bits r12 z12 (fresh_bits r13 z13 (fresh_bits r16 z16 (fresh_bits r19 z19 hb0))))
        have HBI := Lib.hid hb3
        clear hb0 hb3 r12 z12 r13 z13 r16 z16 r19 z19
        simp only [two_length, List.length_cons, List.length_nil] at q12 q13 q16 q19
        unfold Run
        simp [execOp, Upon, go_sem, *]
        exact HK.out _ _ (.inl ((Below.refl _ _).alloc (Nat.le_refl _) _)) (lists_new HBI.out _)
      · intro ev w' hC hc hf hb hr K hK
        have e22 := hr 11 _ rfl (by kernel_rfl)
        change (Lists [[8, 0], two 0, two id, two seq, data] : Pred) (ev (.tmp 22)) _ at e22
        have HK := Lib.hid hK
        have HC := Lib.hid hC
        clear hb hr hK hC
        obtain ⟨g22, vs, q22, r22, hb22⟩ := e22
        simp only [List.length_cons, List.length_nil] at q22
        have HCC := Lib.hid (concat_any ⟨g22, 0, none⟩ 5 _ _ _ _ vs _ w' r22 hb22 (Nat.le_refl _) (Nat.le_refl _) (by rw [HFL.out]; exact HBL.out) (by simp))
        clear r22 hb22
        unfold Run
        simp [execOp, Upon, go_sem, *]
        refine HCC.out.mono ?_
        rintro e w2 ⟨A2, c2, rfl, ho, hb⟩
        rw [HFL.out] at ho ⊢
        exact ⟨_, rfl, HK.out _ _ (.inl hb) ⟨A2, c2, rfl, own_base ho HC.out.size⟩⟩
      · intro ev w' hC hc hf hb hr K hK
        have e23 := hr 12 _ rfl (by kernel_rfl)
        change (Owned w1.heap.size b0 : Pred) (ev (.tmp 23)) _ at e23
        have HK := Lib.hid hK
        have HC := Lib.hid hC
        clear hb hr hK hC hf
        have E := Lib.hid e23
        clear e23
        unfold Run
        simp [execOp, Upon, go_sem, *]
        exact HK.out _ _ (.inl (Below.refl _ _)) E.out
    · exact rl_mono ⟨is_mono _, fresh_mono _ _, fresh_mono _ _, is_mono _, is_mono _, fresh_mono _ _, is_mono _, is_mono _, fresh_mono _ _, is_mono _, is_mono _, lists_mono _, owned_mono _ _, owned_mono _ _, trivial⟩
    intro us wr hG hH
    obtain ⟨-, -, -, -, -, -, -, -, -, -, -, -, -, h13, -⟩ := hH
    simp only [fillM]
    change (Owned w1.heap.size b0 : Pred) (us 5) wr at h13
    generalize us 11 = v11
    generalize us 12 = v12
    generalize us 13 = v13
    generalize us 14 = v14
    generalize us 15 = v15
    generalize us 16 = v16
    generalize us 17 = v17
    generalize us 18 = v18
    generalize us 19 = v19
    generalize us 20 = v20
    generalize us 21 = v21
    generalize us 22 = v22
    generalize us 23 = v23
    generalize us 5 = v5 at h13 ⊢
    obtain ⟨A5, c5, rfl, ho5⟩ := h13
    have HLB5 := HLB.out
    obtain ⟨g5, rfl, hg5, hlt5, -⟩ := own_at ho5 (j := 0) (cells_get b0 0 (by have := HLB.out; omega))
    have hcap := own_cap ho5
    obtain ⟨L, hL⟩ : ∃ L, b0.length = L := ⟨_, rfl⟩
    rw [hL] at ho5 hcap ⊢
    have HL := Lib.hid hL
    have hL8 : 8 ≤ L := by rw [← hL, HLB.out]; omega
    have hL1000 : L ≤ 1000 := by rw [← hL, HLB.out]; omega
    obtain ⟨hcap1, hcap2⟩ := hcap
    unfold maxLen at hcap2
    have HO5 := Lib.hid ho5
    have HG5 := Lib.hid hg5
    have HBR : Hid (Below w.heap.size w wr) := HB1.out.trans (hG.belowF.mono HB1.out.size)
    have hI1 : (2 : Int) ≤ (L : Int) := by omega
    have hcK : c5 ≠ 2 := by omega
    have hcur := HO5.out.2
    rcases hcur with ⟨he, _⟩ | ⟨g, cap, cur, he, _, hgr, _, _, hcs, htk⟩
    · cases he
    simp only [Value.slice.injEq, Option.some.injEq, Addr.mk.injEq, and_true] at he
    obtain ⟨rfl, -, rfl⟩ := he
    rw [Nat.mul_one] at hcs htk
    rw [HL.out] at htk
    have HGR := Lib.hid hgr
    have HCS := Lib.hid hcs
    have HTK := Lib.hid htk
    have hrdb : Rd wr 0 wr.heap.size (some ⟨g5, 0, none⟩) (cells b0) := by
      have h := HO5.out
      unfold OwnB at h
      rw [HL.out] at h
      exact (Rd.own h).wide (Nat.zero_le _) (Nat.le_refl _)
    have HRDB := Lib.hid hrdb
    have hs := sum_any ⟨wr.heap.size, 0, none⟩ [.slice (some ⟨g5, 0, none⟩) b0.length c5] [b0] 1 wr.heap.size (wr.heap.size + 1) 0 wr.heap.size 1 b0 (wr.alloc (.cells #[.slice (some ⟨g5, 0, none⟩) b0.length c5] 23)).drew
      (rd_new wr [.slice (some ⟨g5, 0, none⟩) b0.length c5] 23 (0, 0)).drew (pts_cons (hrdb.alloc (Nat.le_refl _) _).drew rfl pts_nil) rfl (by decide) (by intro p hp; simp at hp; subst hp; unfold maxLen; have := HLB.out; omega) (by simp)
    rw [← HSE.out, hL] at hs
    have HSUM := Lib.hid hs
    clear HLB5 hL ho5 hg5 hG HB1 hgr hcs htk hrdb hs
    go_wp2_with fail
    go_region_law (first
      | (go_simp; go_wp2_with (first | (go_at_call 41; refine HSUM.out.mono ?_; rintro e w5 ⟨rfl, rfl⟩) | (go_at_call 40; refine (dpair_any S _ HS2.out).mono ?_; rintro e w6 ⟨v6, rfl, ⟨A6, c6, rfl, hr6, hz6, hc6⟩, hb6⟩; have hg6 := (hb6.block g5 (by simp; omega)).trans (old_alloc HGR.out _); have hcp := copy_twoK (K := 2) (L := L) (c5 := c5) (c6 := c6) hr6 hg6 (by omega) (by rw [HCS.out]; omega) 3))))
    have HWG : Hid (w.heap.size ≤ g5) := by have h1 := HG5.out; have h2 := HW1.out; show _ ≤ _; omega
    have HB7 : Hid (Below w.heap.size w (w6.setRow g5 (splice cur.toList 2 (cells (two S))).toArray)) := below_setRow ((HBR.out.alloc HBR.out.size _).drew.trans (hb6.mono (by simp; have := HBR.out.size; omega))) HWG.out _
    have HG7 := Lib.hid (setRow_heap w6 g5 cur (splice cur.toList 2 (cells (two S))).toArray _ _ hg6)
    generalize w6.setRow g5 (splice cur.toList 2 (cells (two S))).toArray = w7 at HB7 HG7 ⊢
    clear hb6 hg6 hcp hr6 hz6 hc6 hI1 hcK
    go_wp2
    go_ret2
    have hbl : bs.length = L := by
      rw [HBLEN.out]
      have h1 := HL.out
      rw [HLB.out] at h1
      exact h1
    have htk : (splice cur.toList 2 (cells (two S))).take L = cells bs := by
      have h1 := HTK.out
      rw [HB10.out] at h1
      rw [splice_takeK 2 (cells (two S)) h1 (by rw [← HB10.out]; exact HL.out) HHD.out (by rw [cells_length]; rfl), HBZ.out]
      simp [cells_append]
    refine ⟨some ⟨g5, 0, none⟩, c5, by rw [hbl]; rfl, ?_, HB7.out⟩
    show World.ownsRow _ _ _ _ _ _ _
    rw [hbl]
    refine ⟨by rw [cells_length, hbl, Nat.mul_one], .inr ⟨g5, c5, _, rfl, HWG.out, HG7.out, hcap1, (by unfold maxLen; omega), ?_, by rw [Nat.mul_one]; exact htk⟩⟩
    have hcl : (splice cur.toList 2 (cells (two S))).length = cur.size := by
      rw [length_splice _ _ _ (by rw [cells_length, two_length, Array.length_toList, HCS.out]; omega), Array.length_toList]
    rw [List.size_toArray, hcl, HCS.out, Nat.mul_one]
  · go_wp2_with fail
    have HFL := Lib.hid (HFLK.out 0 rfl)
    clear hw1 k0 k3
    apply wp_region_rely (fun _ => False) (RL [Is _, Fresh w1.heap.size [0, 0], Fresh w1.heap.size (two 0), Is _, Is _, Fresh w1.heap.size (two id), Is _, Is _, Fresh w1.heap.size (two seq), Is _, Is _, Lists [[0, 0], two 0, two id, two seq, data], Owned w1.heap.size b0, Owned w1.heap.size b0]) [false, false, false, false, false, true, false, false, false, false, false, true, true, true, true, true, true, true, true, true, true, true, true, true, false, false, false, false, false, false, false, false]
    · kernel_rfl
    · kernel_rfl
    · kernel_rfl
    · refine ⟨?_, ?_, ?_, ?_, ?_, ?_, ?_, ?_, ?_, ?_, ?_, ?_, ?_, ?_, trivial⟩
      · intro ev w' hC hc hf hb hr K hK
        have e4 : ev (.tmp 4) = _ := hb 4 (by kernel_rfl)
        have HK := Lib.hid hK
        have HC := Lib.hid hC
        clear hb hr hK hC hf
        unfold Run
        simp [execOp, Upon, go_sem, *]
        exact HK.out _ _ (.inl (Below.refl _ _)) rfl
      · intro ev w' hC hc hf hb hr K hK
        have e11 := hr 0 _ rfl (by kernel_rfl)
        change ev (.tmp 11) = _ at e11
        have HK := Lib.hid hK
        have HC := Lib.hid hC
        clear hb hr hK hC hf
        unfold Run
        simp [execOp, Upon, go_sem, *]
        exact HK.out _ _ (.inl ((Below.refl _ _).alloc (Nat.le_refl _) _)) ⟨some ⟨w'.heap.size, 0, none⟩, 2, rfl, by rw [World.size_alloc]; exact (rd_new w' (cells [0, 0]) 5 (0, 0)).wide HC.out.size (Nat.le_refl _), (fun h => by cases h), Nat.le_refl _, (by unfold maxLen; simp)⟩
      · intro ev w' hC hc hf hb hr K hK
        have HK := Lib.hid hK
        have HC := Lib.hid hC
        clear hb hr hK hC
        unfold Run
        simp [execOp, Upon, go_sem, *]
        refine (dpair_any 0 _ (by decide)).mono ?_
        rintro e w2 ⟨v, rfl, hf, hb⟩
        exact ⟨v, rfl, HK.out _ _ (.inl hb) (hf.wide HC.out.size)⟩
      · intro ev w' hC hc hf hb hr K hK
        have e1 : ev (.tmp 1) = _ := hb 1 (by kernel_rfl)
        have HK := Lib.hid hK
        have HC := Lib.hid hC
        clear hb hr hK hC hf
        unfold Run
        simp [execOp, Upon, go_sem, *]
        exact HK.out _ _ (.inl (Below.refl _ _)) rfl
      · intro ev w' hC hc hf hb hr K hK
        have e14 := hr 3 _ rfl (by kernel_rfl)
        change ev (.tmp 14) = _ at e14
        have HK := Lib.hid hK
        have HC := Lib.hid hC
        clear hb hr hK hC hf
        have c1 := K1.out w' HC.out
        unfold Run
        simp [execOp, Upon, go_sem, *]
        exact HK.out _ _ (.inl (Below.refl _ _)) rfl
      · intro ev w' hC hc hf hb hr K hK
        have e15 := hr 4 _ rfl (by kernel_rfl)
        change ev (.tmp 15) = _ at e15
        have HK := Lib.hid hK
        have HC := Lib.hid hC
        clear hb hr hK hC
        unfold Run
        simp [execOp, Upon, go_sem, *]
        refine (dpair_any id _ HID.out).mono ?_
        rintro e w2 ⟨v, rfl, hf, hb⟩
        exact ⟨v, rfl, HK.out _ _ (.inl hb) (hf.wide HC.out.size)⟩
      · intro ev w' hC hc hf hb hr K hK
        have e1 : ev (.tmp 1) = _ := hb 1 (by kernel_rfl)
        have HK := Lib.hid hK
        have HC := Lib.hid hC
        clear hb hr hK hC hf
        unfold Run
        simp [execOp, Upon, go_sem, *]
        exact HK.out _ _ (.inl (Below.refl _ _)) rfl
      · intro ev w' hC hc hf hb hr K hK
        have e17 := hr 6 _ rfl (by kernel_rfl)
        change ev (.tmp 17) = _ at e17
        have HK := Lib.hid hK
        have HC := Lib.hid hC
        clear hb hr hK hC hf
        have c2 := K2.out w' HC.out
        unfold Run
        simp [execOp, Upon, go_sem, *]
        exact HK.out _ _ (.inl (Below.refl _ _)) rfl
      · intro ev w' hC hc hf hb hr K hK
        have e18 := hr 7 _ rfl (by kernel_rfl)
        change ev (.tmp 18) = _ at e18
        have HK := Lib.hid hK
        have HC := Lib.hid hC
        clear hb hr hK hC
        unfold Run
        simp [execOp, Upon, go_sem, *]
        refine (dpair_any seq _ HSQ.out).mono ?_
        rintro e w2 ⟨v, rfl, hf, hb⟩
        exact ⟨v, rfl, HK.out _ _ (.inl hb) (hf.wide HC.out.size)⟩
      · intro ev w' hC hc hf hb hr K hK
        have e1 : ev (.tmp 1) = _ := hb 1 (by kernel_rfl)
        have HK := Lib.hid hK
        have HC := Lib.hid hC
        clear hb hr hK hC hf
        unfold Run
        simp [execOp, Upon, go_sem, *]
        exact HK.out _ _ (.inl (Below.refl _ _)) rfl
      · intro ev w' hC hc hf hb hr K hK
        have e20 := hr 9 _ rfl (by kernel_rfl)
        change ev (.tmp 20) = _ at e20
        have HK := Lib.hid hK
        have HC := Lib.hid hC
        clear hb hr hK hC hf
        have c3 := K3.out w' HC.out
        unfold Run
        simp [execOp, Upon, go_sem, *]
        exact HK.out _ _ (.inl (Below.refl _ _)) rfl
      · intro ev w' hC hc hf hb hr K hK
        have e12 := hr 1 _ rfl (by kernel_rfl)
        have e13 := hr 2 _ rfl (by kernel_rfl)
        have e16 := hr 5 _ rfl (by kernel_rfl)
        have e19 := hr 8 _ rfl (by kernel_rfl)
        have e21 := hr 10 _ rfl (by kernel_rfl)
        change (Fresh w1.heap.size [0, 0] : Pred) (ev (.tmp 12)) _ at e12
        change (Fresh w1.heap.size (two 0) : Pred) (ev (.tmp 13)) _ at e13
        change (Fresh w1.heap.size (two id) : Pred) (ev (.tmp 16)) _ at e16
        change (Fresh w1.heap.size (two seq) : Pred) (ev (.tmp 19)) _ at e19
        change ev (.tmp 21) = _ at e21
        have HK := Lib.hid hK
        have HC := Lib.hid hC
        clear hb hr hK hC hf
        have HDA := Lib.hid (HRB.out w' HC.out)
        obtain ⟨A12, c12, q12, r12, z12, _⟩ := e12
        obtain ⟨A13, c13, q13, r13, z13, _⟩ := e13
        obtain ⟨A16, c16, q16, r16, z16, _⟩ := e16
        obtain ⟨A19, c19, q19, r19, z19, _⟩ := e19
        have hb0 : Bits w' 0 w'.heap.size [.slice A n c] [data] := by
          have := Bits.cons (lo := 0) (hi := w'.heap.size) HDA.out HAN.out (Bits.nil (w := w'))
          rwa [HN.out] at this
        have hb3 := (fresh_bits r12 z12 (fresh_bits r13 z13 (fresh_bits r16 z16 (fresh_bits r19 z19 hb0))))
        have HBI := Lib.hid hb3
        clear hb0 hb3 r12 z12 r13 z13 r16 z16 r19 z19
        simp only [two_length, List.length_cons, List.length_nil] at q12 q13 q16 q19
        unfold Run
        simp [execOp, Upon, go_sem, *]
        exact HK.out _ _ (.inl ((Below.refl _ _).alloc (Nat.le_refl _) _)) (lists_new HBI.out _)
      · intro ev w' hC hc hf hb hr K hK
        have e22 := hr 11 _ rfl (by kernel_rfl)
        change (Lists [[0, 0], two 0, two id, two seq, data] : Pred) (ev (.tmp 22)) _ at e22
        have HK := Lib.hid hK
        have HC := Lib.hid hC
        clear hb hr hK hC
        obtain ⟨g22, vs, q22, r22, hb22⟩ := e22
        simp only [List.length_cons, List.length_nil] at q22
        have HCC := Lib.hid (concat_any ⟨g22, 0, none⟩ 5 _ _ _ _ vs _ w' r22 hb22 (Nat.le_refl _) (Nat.le_refl _) (by rw [HFL.out]; exact HBL.out) (by simp))
        clear r22 hb22
        unfold Run
        simp [execOp, Upon, go_sem, *]
        refine HCC.out.mono ?_
        rintro e w2 ⟨A2, c2, rfl, ho, hb⟩
        rw [HFL.out] at ho ⊢
        exact ⟨_, rfl, HK.out _ _ (.inl hb) ⟨A2, c2, rfl, own_base ho HC.out.size⟩⟩
      · intro ev w' hC hc hf hb hr K hK
        have e23 := hr 12 _ rfl (by kernel_rfl)
        change (Owned w1.heap.size b0 : Pred) (ev (.tmp 23)) _ at e23
        have HK := Lib.hid hK
        have HC := Lib.hid hC
        clear hb hr hK hC hf
        have E := Lib.hid e23
        clear e23
        unfold Run
        simp [execOp, Upon, go_sem, *]
        exact HK.out _ _ (.inl (Below.refl _ _)) E.out
    · exact rl_mono ⟨is_mono _, fresh_mono _ _, fresh_mono _ _, is_mono _, is_mono _, fresh_mono _ _, is_mono _, is_mono _, fresh_mono _ _, is_mono _, is_mono _, lists_mono _, owned_mono _ _, owned_mono _ _, trivial⟩
    intro us wr hG hH
    obtain ⟨-, -, -, -, -, -, -, -, -, -, -, -, -, h13, -⟩ := hH
    simp only [fillM]
    change (Owned w1.heap.size b0 : Pred) (us 5) wr at h13
    generalize us 11 = v11
    generalize us 12 = v12
    generalize us 13 = v13
    generalize us 14 = v14
    generalize us 15 = v15
    generalize us 16 = v16
    generalize us 17 = v17
    generalize us 18 = v18
    generalize us 19 = v19
    generalize us 20 = v20
    generalize us 21 = v21
    generalize us 22 = v22
    generalize us 23 = v23
    generalize us 5 = v5 at h13 ⊢
    obtain ⟨A5, c5, rfl, ho5⟩ := h13
    have HLB5 := HLB.out
    obtain ⟨g5, rfl, hg5, hlt5, -⟩ := own_at ho5 (j := 0) (cells_get b0 0 (by have := HLB.out; omega))
    have hcap := own_cap ho5
    obtain ⟨L, hL⟩ : ∃ L, b0.length = L := ⟨_, rfl⟩
    rw [hL] at ho5 hcap ⊢
    have HL := Lib.hid hL
    have hL8 : 8 ≤ L := by rw [← hL, HLB.out]; omega
    have hL1000 : L ≤ 1000 := by rw [← hL, HLB.out]; omega
    obtain ⟨hcap1, hcap2⟩ := hcap
    unfold maxLen at hcap2
    have HO5 := Lib.hid ho5
    have HG5 := Lib.hid hg5
    have HBR : Hid (Below w.heap.size w wr) := HB1.out.trans (hG.belowF.mono HB1.out.size)
    have hI1 : (2 : Int) ≤ (L : Int) := by omega
    have hcK : c5 ≠ 2 := by omega
    have hcur := HO5.out.2
    rcases hcur with ⟨he, _⟩ | ⟨g, cap, cur, he, _, hgr, _, _, hcs, htk⟩
    · cases he
    simp only [Value.slice.injEq, Option.some.injEq, Addr.mk.injEq, and_true] at he
    obtain ⟨rfl, -, rfl⟩ := he
    rw [Nat.mul_one] at hcs htk
    rw [HL.out] at htk
    have HGR := Lib.hid hgr
    have HCS := Lib.hid hcs
    have HTK := Lib.hid htk
    have hrdb : Rd wr 0 wr.heap.size (some ⟨g5, 0, none⟩) (cells b0) := by
      have h := HO5.out
      unfold OwnB at h
      rw [HL.out] at h
      exact (Rd.own h).wide (Nat.zero_le _) (Nat.le_refl _)
    have HRDB := Lib.hid hrdb
    have hs := sum_any ⟨wr.heap.size, 0, none⟩ [.slice (some ⟨g5, 0, none⟩) b0.length c5] [b0] 1 wr.heap.size (wr.heap.size + 1) 0 wr.heap.size 1 b0 (wr.alloc (.cells #[.slice (some ⟨g5, 0, none⟩) b0.length c5] 23)).drew
      (rd_new wr [.slice (some ⟨g5, 0, none⟩) b0.length c5] 23 (0, 0)).drew (pts_cons (hrdb.alloc (Nat.le_refl _) _).drew rfl pts_nil) rfl (by decide) (by intro p hp; simp at hp; subst hp; unfold maxLen; have := HLB.out; omega) (by simp)
    rw [← HSE.out, hL] at hs
    have HSUM := Lib.hid hs
    clear HLB5 hL ho5 hg5 hG HB1 hgr hcs htk hrdb hs
    go_wp2_with fail
    go_region_law (first
      | (go_simp; go_wp2_with (first | (go_at_call 41; refine HSUM.out.mono ?_; rintro e w5 ⟨rfl, rfl⟩) | (go_at_call 40; refine (dpair_any S _ HS2.out).mono ?_; rintro e w6 ⟨v6, rfl, ⟨A6, c6, rfl, hr6, hz6, hc6⟩, hb6⟩; have hg6 := (hb6.block g5 (by simp; omega)).trans (old_alloc HGR.out _); have hcp := copy_twoK (K := 2) (L := L) (c5 := c5) (c6 := c6) hr6 hg6 (by omega) (by rw [HCS.out]; omega) 3))))
    have HWG : Hid (w.heap.size ≤ g5) := by have h1 := HG5.out; have h2 := HW1.out; show _ ≤ _; omega
    have HB7 : Hid (Below w.heap.size w (w6.setRow g5 (splice cur.toList 2 (cells (two S))).toArray)) := below_setRow ((HBR.out.alloc HBR.out.size _).drew.trans (hb6.mono (by simp; have := HBR.out.size; omega))) HWG.out _
    have HG7 := Lib.hid (setRow_heap w6 g5 cur (splice cur.toList 2 (cells (two S))).toArray _ _ hg6)
    generalize w6.setRow g5 (splice cur.toList 2 (cells (two S))).toArray = w7 at HB7 HG7 ⊢
    clear hb6 hg6 hcp hr6 hz6 hc6 hI1 hcK
    go_wp2
    go_ret2
    have hbl : bs.length = L := by
      rw [HBLEN.out]
      have h1 := HL.out
      rw [HLB.out] at h1
      exact h1
    have htk : (splice cur.toList 2 (cells (two S))).take L = cells bs := by
      have h1 := HTK.out
      rw [HB10.out] at h1
      rw [splice_takeK 2 (cells (two S)) h1 (by rw [← HB10.out]; exact HL.out) HHD.out (by rw [cells_length]; rfl), HBZ.out]
      simp [cells_append]
    refine ⟨some ⟨g5, 0, none⟩, c5, by rw [hbl]; rfl, ?_, HB7.out⟩
    show World.ownsRow _ _ _ _ _ _ _
    rw [hbl]
    refine ⟨by rw [cells_length, hbl, Nat.mul_one], .inr ⟨g5, c5, _, rfl, HWG.out, HG7.out, hcap1, (by unfold maxLen; omega), ?_, by rw [Nat.mul_one]; exact htk⟩⟩
    have hcl : (splice cur.toList 2 (cells (two S))).length = cur.size := by
      rw [length_splice _ _ _ (by rw [cells_length, two_length, Array.length_toList, HCS.out]; omega), Array.length_toList]
    rw [List.size_toArray, hcl, HCS.out, Nat.mul_one]
end Go.Proofs.Ythkpkhhnlenioaa
