/-
  dgram.buildDatagram: ErrLong of more than 992 bytes of data, else its bytes in a row of the call's own. Every one that can be read. No condition.
-/
import Derived.Test.YthkpkhhnlenioaaCopy2
namespace Go.Proofs.Ythkpkhhnlenioaa
open Go.RowKit

set_option maxHeartbeats 400000 in
theorem bdg_long (i s n c : Nat) (A : Option Addr) (s0 s1 s2 s3 d0 d1 d2 d3 : UInt8) (w : World) (hl : 992 < n) (hm : n ≤ 9223372036854775807) :
    Calls Try.prog 28 #[.agg #[.int .u16 (i : Int), .int .u16 (s : Int), .slice A n c], .agg #[.int .u8 (s0.toNat : Int), .int .u8 (s1.toNat : Int), .int .u8 (s2.toNat : Int), .int .u8 (s3.toNat : Int)], .agg #[.int .u8 (d0.toNat : Int), .int .u8 (d1.toNat : Int), .int .u8 (d2.toNat : Int), .int .u8 (d3.toNat : Int)]] w (OwnPost w ([], 4)) := by
  obtain ⟨w1, hw1⟩ : ∃ w1, ((w.alloc (.cells #[.int .u16 (i : Int), .int .u16 (s : Int), .slice A n c] 43)).alloc (.cells #[.int .u8 (s0.toNat : Int), .int .u8 (s1.toNat : Int), .int .u8 (s2.toNat : Int), .int .u8 (s3.toNat : Int)] 27)).alloc (.cells #[.int .u8 (d0.toNat : Int), .int .u8 (d1.toNat : Int), .int .u8 (d2.toNat : Int), .int .u8 (d3.toNat : Int)] 27) = w1 := ⟨_, rfl⟩
  have HB : Hid (Below w.heap.size w w1) := by show Below _ _ _; rw [← hw1]; exact (((Below.refl _ _).alloc (Nat.le_refl _) _).alloc (by simp) _).alloc (by simp; omega) _
  have k2 : w1.cell? ⟨w.heap.size, 2, none⟩ = some (.slice A n c) := by rw [← hw1]; exact cell_of_row _ _ 2 _ _ _ (old_alloc (old_alloc (heap_alloc_new w _) _) _)
  have HLG := Lib.hid (long_any A n c w1 hm)
  have HD : Hid (decide (992 < n) = true) := decide_eq_true hl
  go_enter Try.func28, Try.ntmps28
  go_wp2_with fail
  refine HLG.out.mono ?_
  rw [HD.out]
  rintro e w2 ⟨rfl, rfl⟩
  go_wp2
  go_ret2
  exact own_none rfl HB.out
set_option maxRecDepth 100000 in
set_option maxHeartbeats 4000000 in
theorem bdg_fits (cs : Array Value) (x : Dg) (s0 s1 s2 s3 d0 d1 d2 d3 : UInt8) (lo hi : Nat) (w : World) (h : DgC w lo hi cs x) (hhi : hi ≤ w.heap.size) (hl : x.data.length ≤ 992) :
    Calls Try.prog 28 #[.agg cs, .agg #[.int .u8 (s0.toNat : Int), .int .u8 (s1.toNat : Int), .int .u8 (s2.toNat : Int), .int .u8 (s3.toNat : Int)], .agg #[.int .u8 (d0.toNat : Int), .int .u8 (d1.toNat : Int), .int .u8 (d2.toNat : Int), .int .u8 (d3.toNat : Int)]] w (OwnPost w (x.bytes [s0, s1, s2, s3] [d0, d1, d2, d3], 0)) := by
  obtain ⟨A, c, rfl, hok, hrd, hlc, hcm, hA⟩ := h
  obtain ⟨w1, hw1⟩ : ∃ w1, ((w.alloc (.cells #[.int .u16 (x.src : Int), .int .u16 (x.dst : Int), .slice A x.data.length c] 43)).alloc (.cells #[.int .u8 (s0.toNat : Int), .int .u8 (s1.toNat : Int), .int .u8 (s2.toNat : Int), .int .u8 (s3.toNat : Int)] 27)).alloc (.cells #[.int .u8 (d0.toNat : Int), .int .u8 (d1.toNat : Int), .int .u8 (d2.toNat : Int), .int .u8 (d3.toNat : Int)] 27) = w1 := ⟨_, rfl⟩
  have HB1 : Hid (Below w.heap.size w w1) := by show Below _ _ _; rw [← hw1]; exact (((Below.refl _ _).alloc (Nat.le_refl _) _).alloc (by simp) _).alloc (by simp; omega) _
  have hg1 : w1.heap[w.heap.size]? = some (.cells #[.int .u16 (x.src : Int), .int .u16 (x.dst : Int), .slice A x.data.length c] 43 (0, 0)) := by rw [← hw1]; exact old_alloc (old_alloc (heap_alloc_new w _) _) _
  have hgs : w1.heap[w.heap.size + 1]? = some (.cells #[.int .u8 (s0.toNat : Int), .int .u8 (s1.toNat : Int), .int .u8 (s2.toNat : Int), .int .u8 (s3.toNat : Int)] 27 (0, 0)) := by
    have := heap_alloc_new (w.alloc (.cells #[.int .u16 (x.src : Int), .int .u16 (x.dst : Int), .slice A x.data.length c] 43)) (.cells #[.int .u8 (s0.toNat : Int), .int .u8 (s1.toNat : Int), .int .u8 (s2.toNat : Int), .int .u8 (s3.toNat : Int)] 27)
    rw [World.size_alloc] at this
    rw [← hw1]
    exact old_alloc this _
  have hgd : w1.heap[w.heap.size + 2]? = some (.cells #[.int .u8 (d0.toNat : Int), .int .u8 (d1.toNat : Int), .int .u8 (d2.toNat : Int), .int .u8 (d3.toNat : Int)] 27 (0, 0)) := by
    have := heap_alloc_new ((w.alloc (.cells #[.int .u16 (x.src : Int), .int .u16 (x.dst : Int), .slice A x.data.length c] 43)).alloc (.cells #[.int .u8 (s0.toNat : Int), .int .u8 (s1.toNat : Int), .int .u8 (s2.toNat : Int), .int .u8 (s3.toNat : Int)] 27)) (.cells #[.int .u8 (d0.toNat : Int), .int .u8 (d1.toNat : Int), .int .u8 (d2.toNat : Int), .int .u8 (d3.toNat : Int)] 27)
    rw [World.size_alloc, World.size_alloc] at this
    rw [← hw1]
    exact this
  have HLG := Lib.hid (long_any A x.data.length c w1 (by omega))
  have HD : Hid (decide (992 < x.data.length) = false) := decide_eq_false (by omega)
  have HRD := Lib.hid (hrd.below (B := w.heap.size) HB1.out hhi)
  have HHI := Lib.hid hhi
  have HAN := Lib.hid hA
  have HBL0 := dg_length [s0, s1, s2, s3] [d0, d1, d2, d3] x
  have HFR : Hid (x.front = two x.src ++ two x.dst ++ two (8 + x.data.length)) := rfl
  have HBY : Hid (x.bytes [s0, s1, s2, s3] [d0, d1, d2, d3] = x.front ++ two (dgSum [s0, s1, s2, s3] [d0, d1, d2, d3] x) ++ x.data) := rfl
  have HBA : Hid (dgBare [s0, s1, s2, s3] [d0, d1, d2, d3] x = ([s0, s1, s2, s3] ++ [d0, d1, d2, d3] ++ [0, 17] ++ two (8 + x.data.length)) ++ (x.front ++ two 0 ++ x.data)) := rfl
  have HSU : Hid (dgSum [s0, s1, s2, s3] [d0, d1, d2, d3] x = if 65535 - sumL (dgBare [s0, s1, s2, s3] [d0, d1, d2, d3] x) = 0 then 65535 else 65535 - sumL (dgBare [s0, s1, s2, s3] [d0, d1, d2, d3] x)) := rfl
  have HFL6 : Hid (x.front.length = 6) := front_len x
  obtain ⟨hid, hsq⟩ := hok
  generalize dgSum [s0, s1, s2, s3] [d0, d1, d2, d3] x = S at HBY HSU
  generalize x.bytes [s0, s1, s2, s3] [d0, d1, d2, d3] = bs at HBY HBL0 ⊢
  generalize dgBare [s0, s1, s2, s3] [d0, d1, d2, d3] x = ba at HBA HSU
  obtain ⟨front, hfr⟩ : ∃ f, x.front = f := ⟨_, rfl⟩
  rw [hfr] at HFR HBY HBA HFL6
  clear hfr
  obtain ⟨src, dst, data⟩ := x
  simp only at *
  have HSRC := Lib.hid hid
  have HDST := Lib.hid hsq
  obtain ⟨n, hn⟩ : ∃ n, data.length = n := ⟨_, rfl⟩
  rw [hn] at hl hlc hg1 HBL0 HLG HD hw1 HFR HBA ⊢
  obtain ⟨m, hm⟩ : ∃ m, 8 + n = m := ⟨_, rfl⟩
  rw [hm] at HFR HBA HBL0
  have hm8 : (8 : Int) + (n : Int) = (m : Int) := by omega
  have hm2 : m ≤ 1000 := by omega
  have HM6 : Hid (m < 65536) := by show _ < _; omega
  have HM16 : Hid (IntKind.u16.wrap (m : Int) = (m : Int)) := IntWalk.u16_in _ ⟨by omega, by omega⟩
  have HN := Lib.hid hn
  have HBLEN := Lib.hid HBL0
  obtain ⟨b0, hb0⟩ : ∃ b0, front ++ two 0 ++ data = b0 := ⟨_, rfl⟩
  have HB10 : Hid (b0 = front ++ (two 0 ++ data)) := by show _ = _; rw [← hb0, List.append_assoc]
  have HHD := HFL6
  rw [hb0] at HBA
  have HLB : Hid (b0.length = m) := by show _ = _; rw [HB10.out]; simp [two_length, HFL6.out, hn]; omega
  have HBL : Hid (b0.length ≤ 1000000000) := by show _ ≤ _; rw [HLB.out]; omega
  have HFL : Hid ([two src, two dst, two m, two 0, data].flatten = b0) := by show _ = _; rw [HB10.out, HFR.out]; simp
  have K0 : Hid (∀ w', Gro (fun _ => False) w1 w' → w'.cell? ⟨w.heap.size, 0, none⟩ = some (.int .u16 (src : Int))) := fun w' hg => cell_of_row _ _ 0 _ _ _ ((hg.block _ (row_lt hg1) (fun h => h)).trans hg1)
  have K1 : Hid (∀ w', Gro (fun _ => False) w1 w' → w'.cell? ⟨w.heap.size, 1, none⟩ = some (.int .u16 (dst : Int))) := fun w' hg => cell_of_row _ _ 1 _ _ _ ((hg.block _ (row_lt hg1) (fun h => h)).trans hg1)
  have K2 : Hid (∀ w', Gro (fun _ => False) w1 w' → w'.cell? ⟨w.heap.size, 2, none⟩ = some (.slice A n c)) := fun w' hg => cell_of_row _ _ 2 _ _ _ ((hg.block _ (row_lt hg1) (fun h => h)).trans hg1)
  have k2 : w1.cell? ⟨w.heap.size, 2, none⟩ = some (.slice A n c) := cell_of_row _ _ 2 _ _ _ hg1
  have HW1 : Hid (w.heap.size + 2 < w1.heap.size) := row_lt hgd
  have HRB : Hid (∀ w', Gro (fun _ => False) w1 w' → Rd w' 0 w'.heap.size A (cells data)) := fun w' hg => (HRD.out.below hg.belowF (by have := HHI.out; have := HW1.out; omega)).wide (Nat.zero_le _) (by have := HHI.out; have := HW1.out; have := hg.size; omega)
  have HGS : Hid (∀ w', Gro (fun _ => False) w1 w' → w'.heap[w.heap.size + 1]? = some (.cells #[.int .u8 (s0.toNat : Int), .int .u8 (s1.toNat : Int), .int .u8 (s2.toNat : Int), .int .u8 (s3.toNat : Int)] 27 (0, 0))) := fun w' hg => (hg.block _ (row_lt hgs) (fun h => h)).trans hgs
  have HGD : Hid (∀ w', Gro (fun _ => False) w1 w' → w'.heap[w.heap.size + 2]? = some (.cells #[.int .u8 (d0.toNat : Int), .int .u8 (d1.toNat : Int), .int .u8 (d2.toNat : Int), .int .u8 (d3.toNat : Int)] 27 (0, 0))) := fun w' hg => (hg.block _ (row_lt hgd) (fun h => h)).trans hgd
  clear hg1 hgs hgd HBL0 hb0 hn hid hsq hrd hhi hA
  go_enter Try.func28, Try.ntmps28
  go_wp2_with fail
  refine HLG.out.mono ?_
  rw [HD.out]
  rintro e w' ⟨rfl, rfl⟩
  go_wp2_with fail
  clear hw1 k2
  apply wp_region_rely (fun _ => False) (RL [Is _, Is _, Fresh w1.heap.size (two src), Is _, Is _, Fresh w1.heap.size (two dst), Is _, Is _, Fresh w1.heap.size (two m), Fresh w1.heap.size (two 0), Is _, Is _, Lists [two src, two dst, two m, two 0, data], Owned w1.heap.size b0, Owned w1.heap.size b0]) [false, false, false, false, false, false, false, false, false, true, false, false, false, false, false, false, false, false, true, true, true, true, true, true, true, true, true, true, true, true, true, true, false, false, false, false, false, false, false, false, false, false, false, false, false, false, false]
  · kernel_rfl
  · kernel_rfl
  · kernel_rfl
  · refine ⟨?_, ?_, ?_, ?_, ?_, ?_, ?_, ?_, ?_, ?_, ?_, ?_, ?_, ?_, ?_, trivial⟩
    · intro ev w' hC hc hf hb hr K hK
      have e3 : ev (.tmp 3) = _ := hb 3 (by kernel_rfl)
      have HK := Lib.hid hK
      have HC := Lib.hid hC
      clear hb hr hK hC hf
      unfold Run
      simp [execOp, Upon, go_sem, *]
      exact HK.out _ _ (.inl (Below.refl _ _)) rfl
    · intro ev w' hC hc hf hb hr K hK
      have e18 := hr 0 _ rfl (by kernel_rfl)
      change ev (.tmp 18) = _ at e18
      have HK := Lib.hid hK
      have HC := Lib.hid hC
      clear hb hr hK hC hf
      have c0 := K0.out w' HC.out
      unfold Run
      simp [execOp, Upon, go_sem, *]
      exact HK.out _ _ (.inl (Below.refl _ _)) rfl
    · intro ev w' hC hc hf hb hr K hK
      have e19 := hr 1 _ rfl (by kernel_rfl)
      change ev (.tmp 19) = _ at e19
      have HK := Lib.hid hK
      have HC := Lib.hid hC
      clear hb hr hK hC
      unfold Run
      simp [execOp, Upon, go_sem, *]
      refine (dpair_any src _ HSRC.out).mono ?_
      rintro e w2 ⟨v, rfl, hf, hb⟩
      exact ⟨v, rfl, HK.out _ _ (.inl hb) (hf.wide HC.out.size)⟩
    · intro ev w' hC hc hf hb hr K hK
      have e3 : ev (.tmp 3) = _ := hb 3 (by kernel_rfl)
      have HK := Lib.hid hK
      have HC := Lib.hid hC
      clear hb hr hK hC hf
      unfold Run
      simp [execOp, Upon, go_sem, *]
      exact HK.out _ _ (.inl (Below.refl _ _)) rfl
    · intro ev w' hC hc hf hb hr K hK
      have e21 := hr 3 _ rfl (by kernel_rfl)
      change ev (.tmp 21) = _ at e21
      have HK := Lib.hid hK
      have HC := Lib.hid hC
      clear hb hr hK hC hf
      have c1 := K1.out w' HC.out
      unfold Run
      simp [execOp, Upon, go_sem, *]
      exact HK.out _ _ (.inl (Below.refl _ _)) rfl
    · intro ev w' hC hc hf hb hr K hK
      have e22 := hr 4 _ rfl (by kernel_rfl)
      change ev (.tmp 22) = _ at e22
      have HK := Lib.hid hK
      have HC := Lib.hid hC
      clear hb hr hK hC
      unfold Run
      simp [execOp, Upon, go_sem, *]
      refine (dpair_any dst _ HDST.out).mono ?_
      rintro e w2 ⟨v, rfl, hf, hb⟩
      exact ⟨v, rfl, HK.out _ _ (.inl hb) (hf.wide HC.out.size)⟩
    · intro ev w' hC hc hf hb hr K hK
      have e8 : ev (.tmp 8) = _ := hb 8 (by kernel_rfl)
      have HK := Lib.hid hK
      have HC := Lib.hid hC
      clear hb hr hK hC hf
      unfold Run
      simp [execOp, Upon, go_sem, *]
      exact HK.out _ _ (.inl (Below.refl _ _)) rfl
    · intro ev w' hC hc hf hb hr K hK
      have e24 := hr 6 _ rfl (by kernel_rfl)
      change ev (.tmp 24) = _ at e24
      have HK := Lib.hid hK
      have HC := Lib.hid hC
      clear hb hr hK hC hf
      have hm16 := HM16.out
      unfold Run
      simp [execOp, Upon, go_sem, *]
      exact HK.out _ _ (.inl (Below.refl _ _)) rfl
    · intro ev w' hC hc hf hb hr K hK
      have e25 := hr 7 _ rfl (by kernel_rfl)
      change ev (.tmp 25) = _ at e25
      have HK := Lib.hid hK
      have HC := Lib.hid hC
      clear hb hr hK hC
      unfold Run
      simp [execOp, Upon, go_sem, *]
      refine (dpair_any m _ HM6.out).mono ?_
      rintro e w2 ⟨v, rfl, hf, hb⟩
      exact ⟨v, rfl, HK.out _ _ (.inl hb) (hf.wide HC.out.size)⟩
    · intro ev w' hC hc hf hb hr K hK
      have HK := Lib.hid hK
      have HC := Lib.hid hC
      clear hb hr hK hC
      unfold Run
      simp [execOp, Upon, go_sem, *]
      refine (dpair_any 0 _ (by decide)).mono ?_
      rintro e w2 ⟨v, rfl, hf, hb⟩
      exact ⟨v, rfl, HK.out _ _ (.inl hb) (hf.wide HC.out.size)⟩
    · intro ev w' hC hc hf hb hr K hK
      have e3 : ev (.tmp 3) = _ := hb 3 (by kernel_rfl)
      have HK := Lib.hid hK
      have HC := Lib.hid hC
      clear hb hr hK hC hf
      unfold Run
      simp [execOp, Upon, go_sem, *]
      exact HK.out _ _ (.inl (Below.refl _ _)) rfl
    · intro ev w' hC hc hf hb hr K hK
      have e28 := hr 10 _ rfl (by kernel_rfl)
      change ev (.tmp 28) = _ at e28
      have HK := Lib.hid hK
      have HC := Lib.hid hC
      clear hb hr hK hC hf
      have c2 := K2.out w' HC.out
      unfold Run
      simp [execOp, Upon, go_sem, *]
      exact HK.out _ _ (.inl (Below.refl _ _)) rfl
    · intro ev w' hC hc hf hb hr K hK
      have e20 := hr 2 _ rfl (by kernel_rfl)
      have e23 := hr 5 _ rfl (by kernel_rfl)
      have e26 := hr 8 _ rfl (by kernel_rfl)
      have e27 := hr 9 _ rfl (by kernel_rfl)
      have e29 := hr 11 _ rfl (by kernel_rfl)
      change (Fresh w1.heap.size (two src) : Pred) (ev (.tmp 20)) _ at e20
      change (Fresh w1.heap.size (two dst) : Pred) (ev (.tmp 23)) _ at e23
      change (Fresh w1.heap.size (two m) : Pred) (ev (.tmp 26)) _ at e26
      change (Fresh w1.heap.size (two 0) : Pred) (ev (.tmp 27)) _ at e27
      change ev (.tmp 29) = _ at e29
      have HK := Lib.hid hK
      have HC := Lib.hid hC
      clear hb hr hK hC hf
      have HDA := Lib.hid (HRB.out w' HC.out)
      obtain ⟨A20, c20, q20, r20, z20, _⟩ := e20
      obtain ⟨A23, c23, q23, r23, z23, _⟩ := e23
      obtain ⟨A26, c26, q26, r26, z26, _⟩ := e26
      obtain ⟨A27, c27, q27, r27, z27, _⟩ := e27
      have hb0 : Bits w' 0 w'.heap.size [.slice A n c] [data] := by
        have := Bits.cons (lo := 0) (hi := w'.heap.size) HDA.out HAN.out (Bits.nil (w := w'))
        rwa [HN.out] at this
      have hb3 := (fresh_bits r20 z20 (fresh_bits r23 z23 (fresh_bits r26 z26 (fresh_bits r27 z27 hb0))))
      have HBI := Lib.hid hb3
      clear hb0 hb3 r20 z20 r23 z23 r26 z26 r27 z27
      simp only [two_length] at q20 q23 q26 q27
      unfold Run
      simp [execOp, Upon, go_sem, *]
      exact HK.out _ _ (.inl ((Below.refl _ _).alloc (Nat.le_refl _) _)) (lists_new HBI.out _)
    · intro ev w' hC hc hf hb hr K hK
      have e30 := hr 12 _ rfl (by kernel_rfl)
      change (Lists [two src, two dst, two m, two 0, data] : Pred) (ev (.tmp 30)) _ at e30
      have HK := Lib.hid hK
      have HC := Lib.hid hC
      clear hb hr hK hC
      obtain ⟨g30, vs, q30, r30, hb30⟩ := e30
      simp only [List.length_cons, List.length_nil] at q30
      have HCC := Lib.hid (concat_any ⟨g30, 0, none⟩ 5 _ _ _ _ vs _ w' r30 hb30 (Nat.le_refl _) (Nat.le_refl _) (by rw [HFL.out]; exact HBL.out) (by simp))
      clear r30 hb30
      unfold Run
      simp [execOp, Upon, go_sem, *]
      refine HCC.out.mono ?_
      rintro e w2 ⟨A2, c2, rfl, ho, hb⟩
      rw [HFL.out] at ho ⊢
      exact ⟨_, rfl, HK.out _ _ (.inl hb) ⟨A2, c2, rfl, own_base ho HC.out.size⟩⟩
    · intro ev w' hC hc hf hb hr K hK
      have e31 := hr 13 _ rfl (by kernel_rfl)
      change (Owned w1.heap.size b0 : Pred) (ev (.tmp 31)) _ at e31
      have HK := Lib.hid hK
      have HC := Lib.hid hC
      clear hb hr hK hC hf
      have E := Lib.hid e31
      clear e31
      unfold Run
      simp [execOp, Upon, go_sem, *]
      exact HK.out _ _ (.inl (Below.refl _ _)) E.out
  · exact rl_mono ⟨is_mono _, is_mono _, fresh_mono _ _, is_mono _, is_mono _, fresh_mono _ _, is_mono _, is_mono _, fresh_mono _ _, fresh_mono _ _, is_mono _, is_mono _, lists_mono _, owned_mono _ _, owned_mono _ _, trivial⟩
  intro us wr hG hH
  obtain ⟨-, -, -, -, -, -, -, -, -, -, -, -, -, -, h14, -⟩ := hH
  simp only [fillM]
  change (Owned w1.heap.size b0 : Pred) (us 9) wr at h14
  generalize us 18 = v18
  generalize us 19 = v19
  generalize us 20 = v20
  generalize us 21 = v21
  generalize us 22 = v22
  generalize us 23 = v23
  generalize us 24 = v24
  generalize us 25 = v25
  generalize us 26 = v26
  generalize us 27 = v27
  generalize us 28 = v28
  generalize us 29 = v29
  generalize us 30 = v30
  generalize us 31 = v31
  generalize us 9 = v9 at h14 ⊢
  obtain ⟨A5, c5, rfl, ho5⟩ := h14
  have HLB5 := HLB.out
  obtain ⟨g5, rfl, hg5, hlt5, -⟩ := own_at ho5 (j := 0) (cells_get b0 0 (by have := HLB.out; omega))
  have hcap := own_cap ho5
  obtain ⟨L, hL⟩ : ∃ L, b0.length = L := ⟨_, rfl⟩
  rw [hL] at ho5 hcap ⊢
  have HL := Lib.hid hL
  have hL8 : 8 ≤ L := by rw [← hL, HLB.out]; omega
  have hL1000 : L ≤ 1000 := by rw [← hL, HLB.out]; omega
  obtain ⟨hcap1, hcap2⟩ := hcap
  unfold maxLen at hcap2
  have HO5 := Lib.hid ho5
  have HG5 := Lib.hid hg5
  have HBR : Hid (Below w.heap.size w wr) := HB1.out.trans (hG.belowF.mono HB1.out.size)
  have hI1 : (6 : Int) ≤ (L : Int) := by omega
  have hcK : c5 ≠ 6 := by omega
  have hcur := HO5.out.2
  rcases hcur with ⟨he, _⟩ | ⟨g, cap, cur, he, _, hgr, _, _, hcs, htk⟩
  · cases he
  simp only [Value.slice.injEq, Option.some.injEq, Addr.mk.injEq, and_true] at he
  obtain ⟨rfl, -, rfl⟩ := he
  rw [Nat.mul_one] at hcs htk
  rw [HL.out] at htk
  have HGR := Lib.hid hgr
  have HCS := Lib.hid hcs
  have HTK := Lib.hid htk
  have hrdb : Rd wr 0 wr.heap.size (some ⟨g5, 0, none⟩) (cells b0) := by
    have h := HO5.out
    unfold OwnB at h
    rw [HL.out] at h
    exact (Rd.own h).wide (Nat.zero_le _) (Nat.le_refl _)
  have HRDB := Lib.hid hrdb
  have hgs2 := HGS.out _ hG
  have hgd2 := HGD.out _ hG
  have HGS2 := Lib.hid hgs2
  have HGD2 := Lib.hid hgd2
  have hps := pseudo_any s0 s1 s2 s3 d0 d1 d2 d3 17 m wr
  rw [show (((17 : UInt8).toNat : Nat) : Int) = 17 from rfl] at hps
  have HPS := Lib.hid hps
  clear HLB5 hL ho5 hg5 hG HB1 hcs htk hrdb hps hgs2 hgd2 hgr
  go_wp2_with (first | refine wpList_load_row rfl 27 _ rfl (w.heap.size + 1) rfl 27 #[.int .u8 (s0.toNat : Int), .int .u8 (s1.toNat : Int), .int .u8 (s2.toNat : Int), .int .u8 (s3.toNat : Int)] (0, 0) _ HGS2.out Try.underlying27 rfl (by kernel_rfl) ?_ | refine wpList_load_row rfl 27 _ rfl (w.heap.size + 2) rfl 27 #[.int .u8 (d0.toNat : Int), .int .u8 (d1.toNat : Int), .int .u8 (d2.toNat : Int), .int .u8 (d3.toNat : Int)] (0, 0) _ HGD2.out Try.underlying27 rfl (by kernel_rfl) ?_)
  refine HPS.out.mono ?_
  rintro e w2 ⟨A2, c2, rfl, ho2, hb2⟩
  obtain ⟨ps, hps⟩ : ∃ ps, [s0, s1, s2, s3] ++ [d0, d1, d2, d3] ++ [0, 17] ++ two m = ps := ⟨_, rfl⟩
  rw [hps] at ho2 HBA ⊢
  have hpl : ps.length = 12 := by rw [← hps]; rfl
  have HGR2 : Hid (w2.heap[g5]? = some (.cells cur 5 (0, 0))) := (hb2.block _ (row_lt HGR.out)).trans HGR.out
  have HG5L : Hid (g5 < w2.heap.size) := row_lt HGR2.out
  have HBR2 : Hid (Below w.heap.size w w2) := HBR.out.trans (hb2.mono HBR.out.size)
  have hs := sum_any ⟨w2.heap.size, 0, none⟩ [.slice A2 ps.length c2, .slice (some ⟨g5, 0, none⟩) b0.length c5] [ps, b0] 2 w2.heap.size (w2.heap.size + 1) 0 w2.heap.size 2 ba (w2.alloc (.cells #[.slice A2 ps.length c2, .slice (some ⟨g5, 0, none⟩) b0.length c5] 23))
    (rd_new w2 [.slice A2 ps.length c2, .slice (some ⟨g5, 0, none⟩) b0.length c5] 23 (0, 0)) (pts_cons (((Rd.own ho2).wide (Nat.zero_le _) (Nat.le_refl _)).alloc (Nat.le_refl _) _) rfl (pts_cons (((HRDB.out.below hb2 (Nat.le_refl _)).wide (Nat.zero_le _) hb2.size).alloc (Nat.le_refl _) _) rfl pts_nil)) rfl (by decide) (by intro p hp; simp at hp; unfold maxLen; rcases hp with rfl | rfl; (· omega); (· have := HLB.out; omega)) (by rw [HBA.out]; simp)
  rw [HL.out, hpl] at hs
  obtain ⟨T, hT⟩ : ∃ T, 65535 - sumL ba = T := ⟨_, rfl⟩
  rw [hT] at hs HSU
  have hT2 : T < 65536 := by omega
  obtain ⟨w3, hw3⟩ : ∃ w3, w2.alloc (.cells #[.slice A2 12 c2, .slice (some ⟨g5, 0, none⟩) L c5] 23) = w3 := ⟨_, rfl⟩
  rw [hw3] at hs
  have HSUM := Lib.hid hs
  have HB3 : Hid (Below w.heap.size w w3) := by rw [← hw3]; exact HBR2.out.alloc HBR2.out.size _
  have HGR3 : Hid (w3.heap[g5]? = some (.cells cur 5 (0, 0))) := by rw [← hw3]; exact old_alloc HGR2.out _
  have hwz : w3.heap.size = w2.heap.size + 1 := by rw [← hw3]; simp
  have HWZ := Lib.hid hwz
  clear hs hT hps ho2 hb2 hwz
  go_wp2_with fail
  refine HSUM.out.mono ?_
  clear hw3
  rintro e w4 ⟨rfl, rfl⟩
  by_cases hT0 : T = 0
  · have hS : S = 65535 := by rw [HSU.out, if_pos hT0]
    have q1 := beqT (show (T : Int) = 0 by omega)
    have HBZ : Hid (bs = front ++ (two 65535 ++ data)) := by show _ = _; rw [HBY.out, hS, List.append_assoc]
    go_wp2_with fail
    go_region_law (first
      | (go_simp; go_wp2_with (first | (go_at_call 40; refine (dpair_any 65535 _ (by omega)).mono ?_; rintro e w6 ⟨v6, rfl, ⟨A6, c6, rfl, hr6, hz6, hc6⟩, hb6⟩; have hg6 := (hb6.block g5 (by have := row_lt HGR3.out; simpa using this)).trans HGR3.out; have hcp := copy_twoK (K := 6) (L := L) (c5 := c5) (c6 := c6) hr6 hg6 (by omega) (by rw [HCS.out]; omega) 3))))
    have HWG : Hid (w.heap.size ≤ g5) := by have h1 := HG5.out; have h2 := HW1.out; show _ ≤ _; omega
    have HB7 : Hid (Below w.heap.size w (w6.setRow g5 (splice cur.toList 6 (cells (two 65535))).toArray)) := below_setRow (HB3.out.drew.trans (hb6.mono (by have := HB3.out.size; simpa using this))) HWG.out _
    have HG7 := Lib.hid (setRow_heap w6 g5 cur (splice cur.toList 6 (cells (two 65535))).toArray _ _ hg6)
    generalize w6.setRow g5 (splice cur.toList 6 (cells (two 65535))).toArray = w7 at HB7 HG7 ⊢
    clear hb6 hg6 hcp hr6 hz6 hc6 hI1 hcK
    go_wp2
    go_ret2
    have hbl : bs.length = L := by
      rw [HBLEN.out]
      have h1 := HL.out
      rw [HLB.out] at h1
      exact h1
    have htk : (splice cur.toList 6 (cells (two 65535))).take L = cells bs := by
      have h1 := HTK.out
      rw [HB10.out] at h1
      rw [splice_takeK 6 (cells (two 65535)) h1 (by rw [← HB10.out]; exact HL.out) HHD.out (by rw [cells_length]; rfl), HBZ.out]
      simp [cells_append]
    refine ⟨some ⟨g5, 0, none⟩, c5, by rw [hbl]; rfl, ?_, HB7.out⟩
    show World.ownsRow _ _ _ _ _ _ _
    rw [hbl]
    refine ⟨by rw [cells_length, hbl, Nat.mul_one], .inr ⟨g5, c5, _, rfl, HWG.out, HG7.out, hcap1, (by unfold maxLen; omega), ?_, by rw [Nat.mul_one]; exact htk⟩⟩
    have hcl : (splice cur.toList 6 (cells (two 65535))).length = cur.size := by
      rw [length_splice _ _ _ (by rw [cells_length, two_length, Array.length_toList, HCS.out]; omega), Array.length_toList]
    rw [List.size_toArray, hcl, HCS.out, Nat.mul_one]
  · have hS : S = T := by rw [HSU.out, if_neg hT0]
    have q1 := beqF (show ¬ (T : Int) = 0 by omega)
    have HBZ : Hid (bs = front ++ (two T ++ data)) := by show _ = _; rw [HBY.out, hS, List.append_assoc]
    go_wp2_with fail
    go_region_law (first
      | (go_simp; go_wp2_with (first | (go_at_call 40; refine (dpair_any T _ (by omega)).mono ?_; rintro e w6 ⟨v6, rfl, ⟨A6, c6, rfl, hr6, hz6, hc6⟩, hb6⟩; have hg6 := (hb6.block g5 (by have := row_lt HGR3.out; simpa using this)).trans HGR3.out; have hcp := copy_twoK (K := 6) (L := L) (c5 := c5) (c6 := c6) hr6 hg6 (by omega) (by rw [HCS.out]; omega) 3))))
    have HWG : Hid (w.heap.size ≤ g5) := by have h1 := HG5.out; have h2 := HW1.out; show _ ≤ _; omega
    have HB7 : Hid (Below w.heap.size w (w6.setRow g5 (splice cur.toList 6 (cells (two T))).toArray)) := below_setRow (HB3.out.drew.trans (hb6.mono (by have := HB3.out.size; simpa using this))) HWG.out _
    have HG7 := Lib.hid (setRow_heap w6 g5 cur (splice cur.toList 6 (cells (two T))).toArray _ _ hg6)
    generalize w6.setRow g5 (splice cur.toList 6 (cells (two T))).toArray = w7 at HB7 HG7 ⊢
    clear hb6 hg6 hcp hr6 hz6 hc6 hI1 hcK
    go_wp2
    go_ret2
    have hbl : bs.length = L := by
      rw [HBLEN.out]
      have h1 := HL.out
      rw [HLB.out] at h1
      exact h1
    have htk : (splice cur.toList 6 (cells (two T))).take L = cells bs := by
      have h1 := HTK.out
      rw [HB10.out] at h1
      rw [splice_takeK 6 (cells (two T)) h1 (by rw [← HB10.out]; exact HL.out) HHD.out (by rw [cells_length]; rfl), HBZ.out]
      simp [cells_append]
    refine ⟨some ⟨g5, 0, none⟩, c5, by rw [hbl]; rfl, ?_, HB7.out⟩
    show World.ownsRow _ _ _ _ _ _ _
    rw [hbl]
    refine ⟨by rw [cells_length, hbl, Nat.mul_one], .inr ⟨g5, c5, _, rfl, HWG.out, HG7.out, hcap1, (by unfold maxLen; omega), ?_, by rw [Nat.mul_one]; exact htk⟩⟩
    have hcl : (splice cur.toList 6 (cells (two T))).length = cur.size := by
      rw [length_splice _ _ _ (by rw [cells_length, two_length, Array.length_toList, HCS.out]; omega), Array.length_toList]
    rw [List.size_toArray, hcl, HCS.out, Nat.mul_one]
end Go.Proofs.Ythkpkhhnlenioaa
