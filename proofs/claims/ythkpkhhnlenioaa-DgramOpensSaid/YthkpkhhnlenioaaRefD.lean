/-
  The document's own answer for a Datagram's bytes (caravelref08.Datagram): what the plain function gives. Every one that can be read, every two hosts. No condition.
-/
import Derived.Test.YthkpkhhnlenioaaRefB
namespace Go.Proofs.Ythkpkhhnlenioaa
open Go.RowKit

set_option maxRecDepth 100000 in
theorem refdg_long (i s n c : Nat) (A : Option Addr) (s0 s1 s2 s3 d0 d1 d2 d3 : UInt8) (w : World) (hl : 992 < n) (hm : n ≤ 1000000000000) :
    Calls Try.prog 15 #[.agg #[.int .u16 (i : Int), .int .u16 (s : Int), .slice A n c], .agg #[.int .u8 (s0.toNat : Int), .int .u8 (s1.toNat : Int), .int .u8 (s2.toNat : Int), .int .u8 (s3.toNat : Int)], .agg #[.int .u8 (d0.toNat : Int), .int .u8 (d1.toNat : Int), .int .u8 (d2.toNat : Int), .int .u8 (d3.toNat : Int)]] w (TxtPost w ([], 4)) := by
  obtain ⟨w1, hw1⟩ : ∃ w1, ((w.alloc (.cells #[.int .u16 (i : Int), .int .u16 (s : Int), .slice A n c] 43)).alloc (.cells #[.int .u8 (s0.toNat : Int), .int .u8 (s1.toNat : Int), .int .u8 (s2.toNat : Int), .int .u8 (s3.toNat : Int)] 27)).alloc (.cells #[.int .u8 (d0.toNat : Int), .int .u8 (d1.toNat : Int), .int .u8 (d2.toNat : Int), .int .u8 (d3.toNat : Int)] 27) = w1 := ⟨_, rfl⟩
  have HB : Hid (Below w.heap.size w w1) := by show Below _ _ _; rw [← hw1]; exact (((Below.refl _ _).alloc (Nat.le_refl _) _).alloc (by simp) _).alloc (by simp; omega) _
  have k2 : w1.cell? ⟨w.heap.size, 2, none⟩ = some (.slice A n c) := by rw [← hw1]; exact cell_of_row _ _ 2 _ _ _ (old_alloc (old_alloc (heap_alloc_new w _) _) _)
  have hw : IntKind.i64.wrap ((n : Int) + 8) = (n : Int) + 8 := IntWalk.i64_in _ ⟨by omega, by omega⟩
  go_enter Try.func15, Try.ntmps15
  go_wp2
  go_ret2
  exact ⟨rfl, HB.out⟩
set_option maxRecDepth 100000 in
set_option maxHeartbeats 4000000 in
theorem refdg_fits (cs : Array Value) (x : Dg) (s0 s1 s2 s3 d0 d1 d2 d3 : UInt8) (lo hi : Nat) (w : World) (h : DgC w lo hi cs x) (hhi : hi ≤ w.heap.size) (hl : x.data.length ≤ 992) :
    Calls Try.prog 15 #[.agg cs, .agg #[.int .u8 (s0.toNat : Int), .int .u8 (s1.toNat : Int), .int .u8 (s2.toNat : Int), .int .u8 (s3.toNat : Int)], .agg #[.int .u8 (d0.toNat : Int), .int .u8 (d1.toNat : Int), .int .u8 (d2.toNat : Int), .int .u8 (d3.toNat : Int)]] w (TxtPost w (x.bytes [s0, s1, s2, s3] [d0, d1, d2, d3], 0)) := by
  obtain ⟨A, c, rfl, hok, hrd, hlc, hcm, hA⟩ := h
  obtain ⟨w1, hw1⟩ : ∃ w1, ((w.alloc (.cells #[.int .u16 (x.src : Int), .int .u16 (x.dst : Int), .slice A x.data.length c] 43)).alloc (.cells #[.int .u8 (s0.toNat : Int), .int .u8 (s1.toNat : Int), .int .u8 (s2.toNat : Int), .int .u8 (s3.toNat : Int)] 27)).alloc (.cells #[.int .u8 (d0.toNat : Int), .int .u8 (d1.toNat : Int), .int .u8 (d2.toNat : Int), .int .u8 (d3.toNat : Int)] 27) = w1 := ⟨_, rfl⟩
  have HB1 : Hid (Below w.heap.size w w1) := by show Below _ _ _; rw [← hw1]; exact (((Below.refl _ _).alloc (Nat.le_refl _) _).alloc (by simp) _).alloc (by simp; omega) _
  have hg1 : w1.heap[w.heap.size]? = some (.cells #[.int .u16 (x.src : Int), .int .u16 (x.dst : Int), .slice A x.data.length c] 43 (0, 0)) := by rw [← hw1]; exact old_alloc (old_alloc (heap_alloc_new w _) _) _
  have hgs : w1.heap[w.heap.size + 1]? = some (.cells #[.int .u8 (s0.toNat : Int), .int .u8 (s1.toNat : Int), .int .u8 (s2.toNat : Int), .int .u8 (s3.toNat : Int)] 27 (0, 0)) := by
    have := heap_alloc_new (w.alloc (.cells #[.int .u16 (x.src : Int), .int .u16 (x.dst : Int), .slice A x.data.length c] 43)) (.cells #[.int .u8 (s0.toNat : Int), .int .u8 (s1.toNat : Int), .int .u8 (s2.toNat : Int), .int .u8 (s3.toNat : Int)] 27)
    rw [World.size_alloc] at this
    rw [← hw1]
    exact old_alloc this _
  have hgd : w1.heap[w.heap.size + 2]? = some (.cells #[.int .u8 (d0.toNat : Int), .int .u8 (d1.toNat : Int), .int .u8 (d2.toNat : Int), .int .u8 (d3.toNat : Int)] 27 (0, 0)) := by
    have := heap_alloc_new ((w.alloc (.cells #[.int .u16 (x.src : Int), .int .u16 (x.dst : Int), .slice A x.data.length c] 43)).alloc (.cells #[.int .u8 (s0.toNat : Int), .int .u8 (s1.toNat : Int), .int .u8 (s2.toNat : Int), .int .u8 (s3.toNat : Int)] 27)) (.cells #[.int .u8 (d0.toNat : Int), .int .u8 (d1.toNat : Int), .int .u8 (d2.toNat : Int), .int .u8 (d3.toNat : Int)] 27)
    rw [World.size_alloc, World.size_alloc] at this
    rw [← hw1]
    exact this
  have HRD := Lib.hid (hrd.below (B := w.heap.size) HB1.out hhi)
  have HHI := Lib.hid hhi
  have HFR : Hid (x.front = two x.src ++ two x.dst ++ two (8 + x.data.length)) := rfl
  have HBY : Hid (x.bytes [s0, s1, s2, s3] [d0, d1, d2, d3] = x.front ++ two (dgSum [s0, s1, s2, s3] [d0, d1, d2, d3] x) ++ x.data) := rfl
  have HBA : Hid (dgBare [s0, s1, s2, s3] [d0, d1, d2, d3] x = ([s0, s1, s2, s3] ++ [d0, d1, d2, d3] ++ [0, 17] ++ two (8 + x.data.length)) ++ (x.front ++ two 0 ++ x.data)) := rfl
  have HSU : Hid (dgSum [s0, s1, s2, s3] [d0, d1, d2, d3] x = if 65535 - sumL (dgBare [s0, s1, s2, s3] [d0, d1, d2, d3] x) = 0 then 65535 else 65535 - sumL (dgBare [s0, s1, s2, s3] [d0, d1, d2, d3] x)) := rfl
  have HFL : Hid (x.front.length = 6) := front_len x
  obtain ⟨hid, hsq⟩ := hok
  generalize dgSum [s0, s1, s2, s3] [d0, d1, d2, d3] x = S at HBY HSU
  generalize x.bytes [s0, s1, s2, s3] [d0, d1, d2, d3] = bs at HBY ⊢
  generalize dgBare [s0, s1, s2, s3] [d0, d1, d2, d3] x = ba at HBA HSU
  obtain ⟨front, hfr⟩ : ∃ f, x.front = f := ⟨_, rfl⟩
  rw [hfr] at HFR HBY HBA HFL
  clear hfr
  have HSRC := Lib.hid hid
  have HDST := Lib.hid hsq
  have HIW : Hid (IntKind.i64.wrap (x.src : Int) = (x.src : Int)) := IntWalk.i64_in _ ⟨by omega, by omega⟩
  have HDW : Hid (IntKind.i64.wrap (x.dst : Int) = (x.dst : Int)) := IntWalk.i64_in _ ⟨by omega, by omega⟩
  obtain ⟨src, dst, data⟩ := x
  simp only at *
  obtain ⟨n, hn⟩ : ∃ n, data.length = n := ⟨_, rfl⟩
  rw [hn] at hl hlc hg1 hw1 HFR HBA ⊢
  obtain ⟨m, hm⟩ : ∃ m, 8 + n = m := ⟨_, rfl⟩
  rw [hm] at HFR HBA
  have hm8 : (n : Int) + 8 = (m : Int) := by omega
  have hm2 : m ≤ 1000 := by omega
  have HM6 : Hid (m < 65536) := by show _ < _; omega
  have HN := Lib.hid hn
  obtain ⟨pl, hpl⟩ : ∃ pl, [s0, s1, s2, s3] ++ [d0, d1, d2, d3] ++ [0, 17] ++ two m = pl := ⟨_, rfl⟩
  have HPL := Lib.hid hpl
  have hpll : pl.length = 12 := by rw [← hpl]; rfl
  rw [hpl] at HBA
  obtain ⟨T, hT⟩ : ∃ T, 65535 - sumL ba = T := ⟨_, rfl⟩
  have HTT := Lib.hid hT
  rw [hT] at HSU
  have hT2 : T < 65536 := by omega
  have HTW : Hid (IntKind.i64.wrap (T : Int) = (T : Int)) := IntWalk.i64_in _ ⟨by omega, by omega⟩
  have HBAL : Hid (ba.length ≤ 1000000) := by show _ ≤ _; rw [HBA.out]; simp [hpll, HFL.out, two_length, hn]; omega
  have FRT : Hid (Value.string ((⟨(two src).toArray⟩ : ByteArray) ++ ⟨(two dst).toArray⟩ ++ ⟨(two m).toArray⟩) = txt front) := by
    show _ = _
    rw [ba_app, ba_app, HFR.out]
  have FRB : Hid (Value.string ((⟨pl.toArray⟩ : ByteArray) ++ ⟨front.toArray⟩ ++ ⟨#[0, 0]⟩ ++ ⟨data.toArray⟩) = txt ba) := by
    show _ = _
    rw [show (⟨#[0, 0]⟩ : ByteArray) = ⟨(two 0).toArray⟩ from rfl, ba_app, ba_app, ba_app, HBA.out]
    simp [List.append_assoc]
  have HCL1 : Hid (¬ 9223372036854775807 < pl.length + front.length) := by show ¬ _ < _; rw [hpll, HFL.out]; omega
  have HCL2 : Hid (¬ 9223372036854775807 < pl.length + front.length + 2 + data.length) := by show ¬ _ < _; rw [hpll, HFL.out, hn]; omega
  have HCL5 : Hid (¬ 9223372036854775807 < pl.length + front.length + 2) := by show ¬ _ < _; rw [hpll, HFL.out]; omega
  have HK0 : Hid (∀ w', Gro (fun _ => False) w1 w' → w'.heap[w.heap.size]? = some (.cells #[.int .u16 (src : Int), .int .u16 (dst : Int), .slice A n c] 43 (0, 0))) := fun w' hg => (hg.block _ (row_lt hg1) (fun h => h)).trans hg1
  have K0 : Hid (∀ w', Gro (fun _ => False) w1 w' → w'.cell? ⟨w.heap.size, 0, none⟩ = some (.int .u16 (src : Int))) := fun w' hg => cell_of_row _ _ 0 _ _ _ (HK0.out w' hg)
  have K1 : Hid (∀ w', Gro (fun _ => False) w1 w' → w'.cell? ⟨w.heap.size, 1, none⟩ = some (.int .u16 (dst : Int))) := fun w' hg => cell_of_row _ _ 1 _ _ _ (HK0.out w' hg)
  have K2 : Hid (∀ w', Gro (fun _ => False) w1 w' → w'.cell? ⟨w.heap.size, 2, none⟩ = some (.slice A n c)) := fun w' hg => cell_of_row _ _ 2 _ _ _ (HK0.out w' hg)
  have k2 : w1.cell? ⟨w.heap.size, 2, none⟩ = some (.slice A n c) := cell_of_row _ _ 2 _ _ _ hg1
  have HW1 : Hid (w.heap.size + 2 < w1.heap.size) := row_lt hgd
  have HRB : Hid (∀ w', Gro (fun _ => False) w1 w' → Rd w' 0 w'.heap.size A (cells data)) := fun w' hg => (HRD.out.below hg.belowF (by have := HHI.out; have := HW1.out; omega)).wide (Nat.zero_le _) (by have := HHI.out; have := HW1.out; have := hg.size; omega)
  have HGS : Hid (∀ w', Gro (fun _ => False) w1 w' → w'.heap[w.heap.size + 1]? = some (.cells #[.int .u8 (s0.toNat : Int), .int .u8 (s1.toNat : Int), .int .u8 (s2.toNat : Int), .int .u8 (s3.toNat : Int)] 27 (0, 0))) := fun w' hg => (hg.block _ (row_lt hgs) (fun h => h)).trans hgs
  have HGD : Hid (∀ w', Gro (fun _ => False) w1 w' → w'.heap[w.heap.size + 2]? = some (.cells #[.int .u8 (d0.toNat : Int), .int .u8 (d1.toNat : Int), .int .u8 (d2.toNat : Int), .int .u8 (d3.toNat : Int)] 27 (0, 0))) := fun w' hg => (hg.block _ (row_lt hgd) (fun h => h)).trans hgd
  clear hg1 hgs hgd hn hid hsq hrd hhi hA hpl hT hpll
  go_enter Try.func15, Try.ntmps15
  go_wp2_with fail
  clear hw1 k2
  apply wp_region_rely (fun _ => False) (RL [Is _, Is _, Is _, Is (txt (two src)), Is _, Is _, Is _, Is (txt (two dst)), Is _, Is _, Is (txt (two m)), Is (txt front), Is (.string ⟨front.toArray⟩)]) [false, false, false, false, false, false, false, false, false, true, false, false, false, false, false, false, false, true, true, true, true, true, true, true, true, true, true, true, true, false, false, false, false, false, false, false, false, false, false, false, false, false, false, false, false, false, false, false, false, false, false, false]
  · kernel_rfl
  · kernel_rfl
  · kernel_rfl
  · refine ⟨?_, ?_, ?_, ?_, ?_, ?_, ?_, ?_, ?_, ?_, ?_, ?_, ?_, trivial⟩
    · intro ev w' hC hc hf hb hr K hK
      have e3 : ev (.tmp 3) = _ := hb 3 (by kernel_rfl)
      have HK := Lib.hid hK
      have HC := Lib.hid hC
      clear hb hr hK hC hf
      unfold Run
      simp [execOp, Upon, go_sem, *]
      exact HK.out _ _ (.inl (Below.refl _ _)) rfl
    · intro ev w' hC hc hf hb hr K hK
      have e17 := hr 0 _ rfl (by kernel_rfl)
      change ev (.tmp 17) = _ at e17
      have HK := Lib.hid hK
      have HC := Lib.hid hC
      clear hb hr hK hC hf
      have c0 := K0.out w' HC.out
      have hw := HIW.out
      unfold Run
      simp [execOp, Upon, go_sem, *]
      exact HK.out _ _ (.inl (Below.refl _ _)) rfl
    · intro ev w' hC hc hf hb hr K hK
      have e18 := hr 1 _ rfl (by kernel_rfl)
      change ev (.tmp 18) = _ at e18
      have HK := Lib.hid hK
      have HC := Lib.hid hC
      clear hb hr hK hC hf
      have hw := HIW.out
      unfold Run
      simp [execOp, Upon, go_sem, *]
      exact HK.out _ _ (.inl (Below.refl _ _)) rfl
    · intro ev w' hC hc hf hb hr K hK
      have e19 := hr 2 _ rfl (by kernel_rfl)
      change ev (.tmp 19) = _ at e19
      have HK := Lib.hid hK
      have HC := Lib.hid hC
      clear hb hr hK hC
      unfold Run
      simp [execOp, Upon, go_sem, *]
      refine (refword_all src _ (by have := HSRC.out; omega)).mono ?_
      rintro e w2 ⟨rfl, hb⟩
      exact ⟨_, rfl, HK.out _ _ (.inl hb) rfl⟩
    · intro ev w' hC hc hf hb hr K hK
      have e3 : ev (.tmp 3) = _ := hb 3 (by kernel_rfl)
      have HK := Lib.hid hK
      have HC := Lib.hid hC
      clear hb hr hK hC hf
      unfold Run
      simp [execOp, Upon, go_sem, *]
      exact HK.out _ _ (.inl (Below.refl _ _)) rfl
    · intro ev w' hC hc hf hb hr K hK
      have e21 := hr 4 _ rfl (by kernel_rfl)
      change ev (.tmp 21) = _ at e21
      have HK := Lib.hid hK
      have HC := Lib.hid hC
      clear hb hr hK hC hf
      have c1 := K1.out w' HC.out
      unfold Run
      simp [execOp, Upon, go_sem, *]
      exact HK.out _ _ (.inl (Below.refl _ _)) rfl
    · intro ev w' hC hc hf hb hr K hK
      have e22 := hr 5 _ rfl (by kernel_rfl)
      change ev (.tmp 22) = _ at e22
      have HK := Lib.hid hK
      have HC := Lib.hid hC
      clear hb hr hK hC hf
      have hw := HDW.out
      unfold Run
      simp [execOp, Upon, go_sem, *]
      exact HK.out _ _ (.inl (Below.refl _ _)) rfl
    · intro ev w' hC hc hf hb hr K hK
      have e23 := hr 6 _ rfl (by kernel_rfl)
      change ev (.tmp 23) = _ at e23
      have HK := Lib.hid hK
      have HC := Lib.hid hC
      clear hb hr hK hC
      unfold Run
      simp [execOp, Upon, go_sem, *]
      refine (refword_all dst _ (by have := HDST.out; omega)).mono ?_
      rintro e w2 ⟨rfl, hb⟩
      exact ⟨_, rfl, HK.out _ _ (.inl hb) rfl⟩
    · intro ev w' hC hc hf hb hr K hK
      have e20 := hr 3 _ rfl (by kernel_rfl)
      have e24 := hr 7 _ rfl (by kernel_rfl)
      change ev (.tmp 20) = _ at e20
      change ev (.tmp 24) = _ at e24
      have HK := Lib.hid hK
      have HC := Lib.hid hC
      clear hb hr hK hC hf
      unfold Run
      simp [execOp, Upon, go_sem, *]
      exact HK.out _ _ (.inl (Below.refl _ _)) rfl
    · intro ev w' hC hc hf hb hr K hK
      have e8 : ev (.tmp 8) = _ := hb 8 (by kernel_rfl)
      have HK := Lib.hid hK
      have HC := Lib.hid hC
      clear hb hr hK hC hf
      unfold Run
      simp [execOp, Upon, go_sem, *]
      exact HK.out _ _ (.inl (Below.refl _ _)) rfl
    · intro ev w' hC hc hf hb hr K hK
      have e26 := hr 9 _ rfl (by kernel_rfl)
      change ev (.tmp 26) = _ at e26
      have HK := Lib.hid hK
      have HC := Lib.hid hC
      clear hb hr hK hC
      unfold Run
      simp [execOp, Upon, go_sem, *]
      refine (refword_all m _ (by have := HM6.out; omega)).mono ?_
      rintro e w2 ⟨rfl, hb⟩
      exact ⟨_, rfl, HK.out _ _ (.inl hb) rfl⟩
    · intro ev w' hC hc hf hb hr K hK
      have e25 := hr 8 _ rfl (by kernel_rfl)
      have e27 := hr 10 _ rfl (by kernel_rfl)
      change ev (.tmp 25) = _ at e25
      change ev (.tmp 27) = _ at e27
      have HK := Lib.hid hK
      have HC := Lib.hid hC
      clear hb hr hK hC hf
      unfold Run
      simp [execOp, Upon, go_sem, *]
      exact HK.out _ _ (.inl (Below.refl _ _)) (by show _ = _; first | done | exact FRT.out)
    · intro ev w' hC hc hf hb hr K hK
      have e28 := hr 11 _ rfl (by kernel_rfl)
      change ev (.tmp 28) = _ at e28
      have HK := Lib.hid hK
      have HC := Lib.hid hC
      clear hb hr hK hC hf
      unfold Run
      simp [execOp, Upon, go_sem, *]
      exact HK.out _ _ (.inl (Below.refl _ _)) rfl
  · exact rl_mono ⟨is_mono _, is_mono _, is_mono _, is_mono _, is_mono _, is_mono _, is_mono _, is_mono _, is_mono _, is_mono _, is_mono _, is_mono _, is_mono _, trivial⟩
  intro us wr hG hH
  obtain ⟨-, -, -, -, -, -, -, -, -, -, -, -, h12, -⟩ := hH
  simp only [fillM]
  change us 9 = _ at h12
  rw [h12]
  clear h12
  generalize us 17 = v17
  generalize us 18 = v18
  generalize us 19 = v19
  generalize us 20 = v20
  generalize us 21 = v21
  generalize us 22 = v22
  generalize us 23 = v23
  generalize us 24 = v24
  generalize us 25 = v25
  generalize us 26 = v26
  generalize us 27 = v27
  generalize us 28 = v28
  have HB2 := Lib.hid (HB1.out.trans (hG.belowF.mono HB1.out.size))
  have hGx := hG
  replace K0 := Lib.hid (fun w' (hg : Gro (fun _ => False) wr w') => K0.out w' (hGx.trans hg))
  replace K1 := Lib.hid (fun w' (hg : Gro (fun _ => False) wr w') => K1.out w' (hGx.trans hg))
  replace K2 := Lib.hid (fun w' (hg : Gro (fun _ => False) wr w') => K2.out w' (hGx.trans hg))
  replace HRB := Lib.hid (fun w' (hg : Gro (fun _ => False) wr w') => HRB.out w' (hGx.trans hg))
  replace HGS := Lib.hid (fun w' (hg : Gro (fun _ => False) wr w') => HGS.out w' (hGx.trans hg))
  replace HGD := Lib.hid (fun w' (hg : Gro (fun _ => False) wr w') => HGD.out w' (hGx.trans hg))
  clear hG hGx
  go_wp2_with fail
  apply wp_region_rely (fun _ => False) (RL [Is (.agg #[.int .u8 (s0.toNat : Int), .int .u8 (s1.toNat : Int), .int .u8 (s2.toNat : Int), .int .u8 (s3.toNat : Int)]), Is (.agg #[.int .u8 (d0.toNat : Int), .int .u8 (d1.toNat : Int), .int .u8 (d2.toNat : Int), .int .u8 (d3.toNat : Int)]), Is _, Is (txt pl), Is _, Is _, Is _, Is _, Is _, Is (txt data), Is (txt ba), Is (.int .u16 (T : Int)), Is (.int .i64 (T : Int)), Is (.int .i64 (T : Int))]) [false, false, false, false, false, false, false, false, false, false, true, false, false, false, false, false, false, false, false, false, false, false, false, false, false, false, false, false, false, true, true, true, true, true, true, true, true, true, true, true, true, true, false, false, false, false, false, false, false, false, false, false]
  · kernel_rfl
  · kernel_rfl
  · kernel_rfl
  · refine ⟨?_, ?_, ?_, ?_, ?_, ?_, ?_, ?_, ?_, ?_, ?_, ?_, ?_, ?_, trivial⟩
    · intro ev w' hC hc hf hb hr K hK
      have e4 : ev (.tmp 4) = _ := hb 4 (by kernel_rfl)
      have HK := Lib.hid hK
      have HC := Lib.hid hC
      clear hb hr hK hC hf
      have q1 : ev (.tmp 4) = .pointer (some ⟨w.heap.size + 1, 0, none⟩) := e4
      have hld := run_loadVar_row (P := Try.prog) w' (w.heap.size + 1) 27 27 #[.int .u8 (s0.toNat : Int), .int .u8 (s1.toNat : Int), .int .u8 (s2.toNat : Int), .int .u8 (s3.toNat : Int)] (0, 0) _ (HGS.out w' HC.out) Try.underlying27 rfl (by kernel_rfl)
      unfold Run
      rw [run_loadE 27 _ rfl q1 hld]
      exact HK.out _ _ (.inl (Below.refl _ _)) rfl
    · intro ev w' hC hc hf hb hr K hK
      have e5 : ev (.tmp 5) = _ := hb 5 (by kernel_rfl)
      have HK := Lib.hid hK
      have HC := Lib.hid hC
      clear hb hr hK hC hf
      have q1 : ev (.tmp 5) = .pointer (some ⟨w.heap.size + 2, 0, none⟩) := e5
      have hld := run_loadVar_row (P := Try.prog) w' (w.heap.size + 2) 27 27 #[.int .u8 (d0.toNat : Int), .int .u8 (d1.toNat : Int), .int .u8 (d2.toNat : Int), .int .u8 (d3.toNat : Int)] (0, 0) _ (HGD.out w' HC.out) Try.underlying27 rfl (by kernel_rfl)
      unfold Run
      rw [run_loadE 27 _ rfl q1 hld]
      exact HK.out _ _ (.inl (Below.refl _ _)) rfl
    · intro ev w' hC hc hf hb hr K hK
      have e8 : ev (.tmp 8) = _ := hb 8 (by kernel_rfl)
      have HK := Lib.hid hK
      have HC := Lib.hid hC
      clear hb hr hK hC hf
      unfold Run
      simp [execOp, Upon, go_sem, *]
      exact HK.out _ _ (.inl (Below.refl _ _)) rfl
    · intro ev w' hC hc hf hb hr K hK
      have e29 := hr 0 _ rfl (by kernel_rfl)
      have e30 := hr 1 _ rfl (by kernel_rfl)
      have e31 := hr 2 _ rfl (by kernel_rfl)
      change ev (.tmp 29) = _ at e29
      change ev (.tmp 30) = _ at e30
      change ev (.tmp 31) = _ at e31
      have HK := Lib.hid hK
      have HC := Lib.hid hC
      clear hb hr hK hC
      unfold Run
      simp [execOp, Upon, go_sem, *]
      have hps := refpseudo_any s0 s1 s2 s3 d0 d1 d2 d3 17 m w' (by have := HM6.out; omega)
      rw [HPL.out] at hps
      refine hps.mono ?_
      rintro e w2 ⟨rfl, hb⟩
      exact ⟨_, rfl, HK.out _ _ (.inl hb) rfl⟩
    · intro ev w' hC hc hf hb hr K hK
      have e9 : ev (.tmp 9) = _ := hb 9 (by kernel_rfl)
      have HK := Lib.hid hK
      have HC := Lib.hid hC
      clear hb hr hK hC hf
      unfold Run
      simp [execOp, Upon, go_sem, *]
      exact HK.out _ _ (.inl (Below.refl _ _)) rfl
    · intro ev w' hC hc hf hb hr K hK
      have e32 := hr 3 _ rfl (by kernel_rfl)
      have e33 := hr 4 _ rfl (by kernel_rfl)
      change ev (.tmp 32) = _ at e32
      change ev (.tmp 33) = _ at e33
      have HK := Lib.hid hK
      have HC := Lib.hid hC
      clear hb hr hK hC hf
      have hcl := HCL1.out
      unfold Run
      simp [execOp, Upon, go_sem, *]
      exact HK.out _ _ (.inl (Below.refl _ _)) rfl
    · intro ev w' hC hc hf hb hr K hK
      have e34 := hr 5 _ rfl (by kernel_rfl)
      change ev (.tmp 34) = _ at e34
      have HK := Lib.hid hK
      have HC := Lib.hid hC
      clear hb hr hK hC hf
      have hcl := HCL5.out
      unfold Run
      simp [execOp, Upon, go_sem, *]
      exact HK.out _ _ (.inl (Below.refl _ _)) rfl
    · intro ev w' hC hc hf hb hr K hK
      have e3 : ev (.tmp 3) = _ := hb 3 (by kernel_rfl)
      have HK := Lib.hid hK
      have HC := Lib.hid hC
      clear hb hr hK hC hf
      unfold Run
      simp [execOp, Upon, go_sem, *]
      exact HK.out _ _ (.inl (Below.refl _ _)) rfl
    · intro ev w' hC hc hf hb hr K hK
      have e36 := hr 7 _ rfl (by kernel_rfl)
      change ev (.tmp 36) = _ at e36
      have HK := Lib.hid hK
      have HC := Lib.hid hC
      clear hb hr hK hC hf
      have c2 := K2.out w' HC.out
      unfold Run
      simp [execOp, Upon, go_sem, *]
      exact HK.out _ _ (.inl (Below.refl _ _)) rfl
    · intro ev w' hC hc hf hb hr K hK
      have e37 := hr 8 _ rfl (by kernel_rfl)
      change ev (.tmp 37) = _ at e37
      have HK := Lib.hid hK
      have HC := Lib.hid hC
      clear hb hr hK hC hf
      have kt := run_text (P := Try.prog) w' 23 9 5 c Try.underlying23 Try.underlying5 Try.underlying9 (HRB.out w' HC.out)
      rw [HN.out] at kt
      unfold Run
      simp [execOp, Upon, go_sem, *]
      exact HK.out _ _ (.inl (Below.refl _ _)) rfl
    · intro ev w' hC hc hf hb hr K hK
      have e35 := hr 6 _ rfl (by kernel_rfl)
      have e38 := hr 9 _ rfl (by kernel_rfl)
      change ev (.tmp 35) = _ at e35
      change ev (.tmp 38) = _ at e38
      have HK := Lib.hid hK
      have HC := Lib.hid hC
      clear hb hr hK hC hf
      have hcl := HCL2.out
      unfold Run
      simp [execOp, Upon, go_sem, *]
      exact HK.out _ _ (.inl (Below.refl _ _)) (by show _ = _; first | done | exact FRB.out)
    · intro ev w' hC hc hf hb hr K hK
      have e39 := hr 10 _ rfl (by kernel_rfl)
      change ev (.tmp 39) = _ at e39
      have HK := Lib.hid hK
      have HC := Lib.hid hC
      clear hb hr hK hC
      have hsum := refsum_any ba w' HBAL.out
      rw [HTT.out] at hsum
      unfold Run
      simp [execOp, Upon, go_sem, *]
      refine hsum.mono ?_
      rintro e w2 ⟨rfl, rfl⟩
      exact ⟨_, rfl, HK.out _ _ (.inl (Below.refl _ _)) rfl⟩
    · intro ev w' hC hc hf hb hr K hK
      have e40 := hr 11 _ rfl (by kernel_rfl)
      change ev (.tmp 40) = _ at e40
      have HK := Lib.hid hK
      have HC := Lib.hid hC
      clear hb hr hK hC hf
      unfold Run
      simp [execOp, Upon, go_sem, *]
      exact HK.out _ _ (.inl (Below.refl _ _)) (by show Value.int _ _ = Value.int _ _; congr 1; first | done | exact HTW.out)
    · intro ev w' hC hc hf hb hr K hK
      have e41 := hr 12 _ rfl (by kernel_rfl)
      change ev (.tmp 41) = _ at e41
      have HK := Lib.hid hK
      have HC := Lib.hid hC
      clear hb hr hK hC hf
      unfold Run
      simp [execOp, Upon, go_sem, *]
      exact HK.out _ _ (.inl (Below.refl _ _)) rfl
  · exact rl_mono ⟨is_mono _, is_mono _, is_mono _, is_mono _, is_mono _, is_mono _, is_mono _, is_mono _, is_mono _, is_mono _, is_mono _, is_mono _, is_mono _, is_mono _, trivial⟩
  intro us wr hG hH
  obtain ⟨-, -, -, -, -, -, -, -, -, -, -, -, -, h13, -⟩ := hH
  simp only [fillM]
  change us 10 = _ at h13
  rw [h13]
  clear h13
  generalize us 29 = v29
  generalize us 30 = v30
  generalize us 31 = v31
  generalize us 32 = v32
  generalize us 33 = v33
  generalize us 34 = v34
  generalize us 35 = v35
  generalize us 36 = v36
  generalize us 37 = v37
  generalize us 38 = v38
  generalize us 39 = v39
  generalize us 40 = v40
  generalize us 41 = v41
  have HB3 := Lib.hid (HB2.out.trans (hG.belowF.mono HB2.out.size))
  have hGx := hG
  replace K0 := Lib.hid (fun w' (hg : Gro (fun _ => False) wr w') => K0.out w' (hGx.trans hg))
  replace K1 := Lib.hid (fun w' (hg : Gro (fun _ => False) wr w') => K1.out w' (hGx.trans hg))
  replace K2 := Lib.hid (fun w' (hg : Gro (fun _ => False) wr w') => K2.out w' (hGx.trans hg))
  replace HRB := Lib.hid (fun w' (hg : Gro (fun _ => False) wr w') => HRB.out w' (hGx.trans hg))
  replace HGS := Lib.hid (fun w' (hg : Gro (fun _ => False) wr w') => HGS.out w' (hGx.trans hg))
  replace HGD := Lib.hid (fun w' (hg : Gro (fun _ => False) wr w') => HGD.out w' (hGx.trans hg))
  clear hG hGx
  by_cases hT0 : T = 0
  · have hS : S = 65535 := by rw [HSU.out, if_pos hT0]
    have q1 := beqT (show (T : Int) = 0 by omega)
    have HS6 : Hid (65535 < 65536) := by show _ < _; omega
    have FRS : Hid (Value.string ((⟨front.toArray⟩ : ByteArray) ++ ⟨(two 65535).toArray⟩ ++ ⟨data.toArray⟩) = txt bs) := by
      show _ = _
      rw [ba_app, ba_app, HBY.out, hS]
    have HCL3 : Hid (¬ 9223372036854775807 < front.length + (two 65535).length) := by show ¬ _ < _; rw [HFL.out, two_length]; omega
    have HCL4 : Hid (¬ 9223372036854775807 < front.length + (two 65535).length + data.length) := by show ¬ _ < _; rw [HFL.out, two_length, HN.out]; omega
    go_wp2_with fail
    apply wp_region_rely (fun _ => False) (RL [Is _, Is _, Is (txt (two 65535)), Is _, Is _, Is _, Is (txt data), Is (txt bs), Is (txt bs), Is _]) [false, false, false, false, false, false, true, true, false, false, false, false, false, false, false, false, false, false, false, false, false, false, false, false, false, false, false, false, false, false, false, false, false, false, false, false, false, false, false, false, false, false, false, false, true, true, true, true, true, true, true, true]
    · kernel_rfl
    · kernel_rfl
    · kernel_rfl
    · refine ⟨?_, ?_, ?_, ?_, ?_, ?_, ?_, ?_, ?_, ?_, trivial⟩
      · intro ev w' hC hc hf hb hr K hK
        have e9 : ev (.tmp 9) = _ := hb 9 (by kernel_rfl)
        have HK := Lib.hid hK
        have HC := Lib.hid hC
        clear hb hr hK hC hf
        unfold Run
        simp [execOp, Upon, go_sem, *]
        exact HK.out _ _ (.inl (Below.refl _ _)) rfl
      · intro ev w' hC hc hf hb hr K hK
        have e10 : ev (.tmp 10) = _ := hb 10 (by kernel_rfl)
        have HK := Lib.hid hK
        have HC := Lib.hid hC
        clear hb hr hK hC hf
        unfold Run
        simp [execOp, Upon, go_sem, *]
        exact HK.out _ _ (.inl (Below.refl _ _)) rfl
      · intro ev w' hC hc hf hb hr K hK
        have e45 := hr 1 _ rfl (by kernel_rfl)
        change ev (.tmp 45) = _ at e45
        have HK := Lib.hid hK
        have HC := Lib.hid hC
        clear hb hr hK hC
        unfold Run
        simp [execOp, Upon, go_sem, *]
        refine (refword_all 65535 _ (by have := HS6.out; omega)).mono ?_
        rintro e w2 ⟨rfl, hb⟩
        exact ⟨_, rfl, HK.out _ _ (.inl hb) rfl⟩
      · intro ev w' hC hc hf hb hr K hK
        have e44 := hr 0 _ rfl (by kernel_rfl)
        have e46 := hr 2 _ rfl (by kernel_rfl)
        change ev (.tmp 44) = _ at e44
        change ev (.tmp 46) = _ at e46
        have HK := Lib.hid hK
        have HC := Lib.hid hC
        clear hb hr hK hC hf
        have hcl := HCL3.out
        unfold Run
        simp [execOp, Upon, go_sem, *]
        exact HK.out _ _ (.inl (Below.refl _ _)) rfl
      · intro ev w' hC hc hf hb hr K hK
        have e3 : ev (.tmp 3) = _ := hb 3 (by kernel_rfl)
        have HK := Lib.hid hK
        have HC := Lib.hid hC
        clear hb hr hK hC hf
        unfold Run
        simp [execOp, Upon, go_sem, *]
        exact HK.out _ _ (.inl (Below.refl _ _)) rfl
      · intro ev w' hC hc hf hb hr K hK
        have e48 := hr 4 _ rfl (by kernel_rfl)
        change ev (.tmp 48) = _ at e48
        have HK := Lib.hid hK
        have HC := Lib.hid hC
        clear hb hr hK hC hf
        have c2 := K2.out w' HC.out
        unfold Run
        simp [execOp, Upon, go_sem, *]
        exact HK.out _ _ (.inl (Below.refl _ _)) rfl
      · intro ev w' hC hc hf hb hr K hK
        have e49 := hr 5 _ rfl (by kernel_rfl)
        change ev (.tmp 49) = _ at e49
        have HK := Lib.hid hK
        have HC := Lib.hid hC
        clear hb hr hK hC hf
        have kt := run_text (P := Try.prog) w' 23 9 5 c Try.underlying23 Try.underlying5 Try.underlying9 (HRB.out w' HC.out)
        rw [HN.out] at kt
        unfold Run
        simp [execOp, Upon, go_sem, *]
        exact HK.out _ _ (.inl (Below.refl _ _)) rfl
      · intro ev w' hC hc hf hb hr K hK
        have e47 := hr 3 _ rfl (by kernel_rfl)
        have e50 := hr 6 _ rfl (by kernel_rfl)
        change ev (.tmp 47) = _ at e47
        change ev (.tmp 50) = _ at e50
        have HK := Lib.hid hK
        have HC := Lib.hid hC
        clear hb hr hK hC hf
        have hcl := HCL4.out
        unfold Run
        simp [execOp, Upon, go_sem, *]
        exact HK.out _ _ (.inl (Below.refl _ _)) (by show _ = _; first | done | exact FRS.out)
      · intro ev w' hC hc hf hb hr K hK
        have e51 := hr 7 _ rfl (by kernel_rfl)
        change ev (.tmp 51) = _ at e51
        have HK := Lib.hid hK
        have HC := Lib.hid hC
        clear hb hr hK hC hf
        unfold Run
        simp [execOp, Upon, go_sem, *]
        exact HK.out _ _ (.inl (Below.refl _ _)) rfl
      · intro ev w' hC hc hf hb hr K hK
        have HK := Lib.hid hK
        have HC := Lib.hid hC
        clear hb hr hK hC hf
        unfold Run
        simp [execOp, Upon, go_sem, *]
        exact HK.out _ _ (.inl (Below.refl _ _)) rfl
    · exact rl_mono ⟨is_mono _, is_mono _, is_mono _, is_mono _, is_mono _, is_mono _, is_mono _, is_mono _, is_mono _, is_mono _, trivial⟩
    intro us wr hG hH
    obtain ⟨-, -, -, -, -, -, -, -, h8, h9, -⟩ := hH
    simp only [fillM]
    change us 6 = _ at h8
    rw [h8]
    clear h8
    change us 7 = _ at h9
    rw [h9]
    clear h9
    generalize us 44 = v44
    generalize us 45 = v45
    generalize us 46 = v46
    generalize us 47 = v47
    generalize us 48 = v48
    generalize us 49 = v49
    generalize us 50 = v50
    generalize us 51 = v51
    have HB4 := Lib.hid (HB3.out.trans (hG.belowF.mono HB3.out.size))
    clear hG
    go_wp2
    go_ret2
    exact ⟨rfl, HB4.out⟩
  · have hS : S = T := by rw [HSU.out, if_neg hT0]
    have q1 := beqF (show ¬ (T : Int) = 0 by omega)
    have HS6 : Hid (T < 65536) := by show _ < _; omega
    have FRS : Hid (Value.string ((⟨front.toArray⟩ : ByteArray) ++ ⟨(two T).toArray⟩ ++ ⟨data.toArray⟩) = txt bs) := by
      show _ = _
      rw [ba_app, ba_app, HBY.out, hS]
    have HCL3 : Hid (¬ 9223372036854775807 < front.length + (two T).length) := by show ¬ _ < _; rw [HFL.out, two_length]; omega
    have HCL4 : Hid (¬ 9223372036854775807 < front.length + (two T).length + data.length) := by show ¬ _ < _; rw [HFL.out, two_length, HN.out]; omega
    go_wp2_with fail
    apply wp_region_rely (fun _ => False) (RL [Is _, Is _, Is (txt (two T)), Is _, Is _, Is _, Is (txt data), Is (txt bs), Is (txt bs), Is _]) [false, false, false, false, false, false, true, true, false, false, false, false, false, false, false, false, false, false, false, false, false, false, false, false, false, false, false, false, false, false, false, false, false, false, false, false, false, false, false, false, false, false, false, false, true, true, true, true, true, true, true, true]
    · kernel_rfl
    · kernel_rfl
    · kernel_rfl
    · refine ⟨?_, ?_, ?_, ?_, ?_, ?_, ?_, ?_, ?_, ?_, trivial⟩
      · intro ev w' hC hc hf hb hr K hK
        have e9 : ev (.tmp 9) = _ := hb 9 (by kernel_rfl)
        have HK := Lib.hid hK
        have HC := Lib.hid hC
        clear hb hr hK hC hf
        unfold Run
        simp [execOp, Upon, go_sem, *]
        exact HK.out _ _ (.inl (Below.refl _ _)) rfl
      · intro ev w' hC hc hf hb hr K hK
        have e10 : ev (.tmp 10) = _ := hb 10 (by kernel_rfl)
        have HK := Lib.hid hK
        have HC := Lib.hid hC
        clear hb hr hK hC hf
        unfold Run
        simp [execOp, Upon, go_sem, *]
        exact HK.out _ _ (.inl (Below.refl _ _)) rfl
      · intro ev w' hC hc hf hb hr K hK
        have e45 := hr 1 _ rfl (by kernel_rfl)
        change ev (.tmp 45) = _ at e45
        have HK := Lib.hid hK
        have HC := Lib.hid hC
        clear hb hr hK hC
        unfold Run
        simp [execOp, Upon, go_sem, *]
        refine (refword_all T _ (by have := HS6.out; omega)).mono ?_
        rintro e w2 ⟨rfl, hb⟩
        exact ⟨_, rfl, HK.out _ _ (.inl hb) rfl⟩
      · intro ev w' hC hc hf hb hr K hK
        have e44 := hr 0 _ rfl (by kernel_rfl)
        have e46 := hr 2 _ rfl (by kernel_rfl)
        change ev (.tmp 44) = _ at e44
        change ev (.tmp 46) = _ at e46
        have HK := Lib.hid hK
        have HC := Lib.hid hC
        clear hb hr hK hC hf
        have hcl := HCL3.out
        unfold Run
        simp [execOp, Upon, go_sem, *]
        exact HK.out _ _ (.inl (Below.refl _ _)) rfl
      · intro ev w' hC hc hf hb hr K hK
        have e3 : ev (.tmp 3) = _ := hb 3 (by kernel_rfl)
        have HK := Lib.hid hK
        have HC := Lib.hid hC
        clear hb hr hK hC hf
        unfold Run
        simp [execOp, Upon, go_sem, *]
        exact HK.out _ _ (.inl (Below.refl _ _)) rfl
      · intro ev w' hC hc hf hb hr K hK
        have e48 := hr 4 _ rfl (by kernel_rfl)
        change ev (.tmp 48) = _ at e48
        have HK := Lib.hid hK
        have HC := Lib.hid hC
        clear hb hr hK hC hf
        have c2 := K2.out w' HC.out
        unfold Run
        simp [execOp, Upon, go_sem, *]
        exact HK.out _ _ (.inl (Below.refl _ _)) rfl
      · intro ev w' hC hc hf hb hr K hK
        have e49 := hr 5 _ rfl (by kernel_rfl)
        change ev (.tmp 49) = _ at e49
        have HK := Lib.hid hK
        have HC := Lib.hid hC
        clear hb hr hK hC hf
        have kt := run_text (P := Try.prog) w' 23 9 5 c Try.underlying23 Try.underlying5 Try.underlying9 (HRB.out w' HC.out)
        rw [HN.out] at kt
        unfold Run
        simp [execOp, Upon, go_sem, *]
        exact HK.out _ _ (.inl (Below.refl _ _)) rfl
      · intro ev w' hC hc hf hb hr K hK
        have e47 := hr 3 _ rfl (by kernel_rfl)
        have e50 := hr 6 _ rfl (by kernel_rfl)
        change ev (.tmp 47) = _ at e47
        change ev (.tmp 50) = _ at e50
        have HK := Lib.hid hK
        have HC := Lib.hid hC
        clear hb hr hK hC hf
        have hcl := HCL4.out
        unfold Run
        simp [execOp, Upon, go_sem, *]
        exact HK.out _ _ (.inl (Below.refl _ _)) (by show _ = _; first | done | exact FRS.out)
      · intro ev w' hC hc hf hb hr K hK
        have e51 := hr 7 _ rfl (by kernel_rfl)
        change ev (.tmp 51) = _ at e51
        have HK := Lib.hid hK
        have HC := Lib.hid hC
        clear hb hr hK hC hf
        unfold Run
        simp [execOp, Upon, go_sem, *]
        exact HK.out _ _ (.inl (Below.refl _ _)) rfl
      · intro ev w' hC hc hf hb hr K hK
        have HK := Lib.hid hK
        have HC := Lib.hid hC
        clear hb hr hK hC hf
        unfold Run
        simp [execOp, Upon, go_sem, *]
        exact HK.out _ _ (.inl (Below.refl _ _)) rfl
    · exact rl_mono ⟨is_mono _, is_mono _, is_mono _, is_mono _, is_mono _, is_mono _, is_mono _, is_mono _, is_mono _, is_mono _, trivial⟩
    intro us wr hG hH
    obtain ⟨-, -, -, -, -, -, -, -, h8, h9, -⟩ := hH
    simp only [fillM]
    change us 6 = _ at h8
    rw [h8]
    clear h8
    change us 7 = _ at h9
    rw [h9]
    clear h9
    generalize us 44 = v44
    generalize us 45 = v45
    generalize us 46 = v46
    generalize us 47 = v47
    generalize us 48 = v48
    generalize us 49 = v49
    generalize us 50 = v50
    generalize us 51 = v51
    have HB4 := Lib.hid (HB3.out.trans (hG.belowF.mono HB3.out.size))
    clear hG
    go_wp2
    go_ret2
    exact ⟨rfl, HB4.out⟩
theorem refdg_any (cs : Array Value) (x : Dg) (s0 s1 s2 s3 d0 d1 d2 d3 : UInt8) (lo hi : Nat) (w : World) (h : DgC w lo hi cs x) (hhi : hi ≤ w.heap.size) (hl : x.data.length ≤ 1000000000000) :
    Calls Try.prog 15 #[.agg cs, .agg #[.int .u8 (s0.toNat : Int), .int .u8 (s1.toNat : Int), .int .u8 (s2.toNat : Int), .int .u8 (s3.toNat : Int)], .agg #[.int .u8 (d0.toNat : Int), .int .u8 (d1.toNat : Int), .int .u8 (d2.toNat : Int), .int .u8 (d3.toNat : Int)]] w (TxtPost w (dgBuild [s0, s1, s2, s3] [d0, d1, d2, d3] x)) := by
  unfold dgBuild
  by_cases hl2 : 992 < x.data.length
  · rw [if_pos hl2]
    obtain ⟨A, c, rfl, _⟩ := h
    exact refdg_long _ _ _ c A _ _ _ _ _ _ _ _ w hl2 hl
  · rw [if_neg hl2]
    exact refdg_fits cs x _ _ _ _ _ _ _ _ lo hi w h hhi (by omega)
end Go.Proofs.Ythkpkhhnlenioaa
