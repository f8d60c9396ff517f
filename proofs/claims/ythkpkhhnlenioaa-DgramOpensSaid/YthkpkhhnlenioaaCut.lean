/-
  The law DgramCut: every Datagram, every two hosts, every int. No condition.
-/
import Derived.Test.YthkpkhhnlenioaaShapes
namespace Go.Proofs.Ythkpkhhnlenioaa
open Go.RowKit

theorem u64_range (z : Int) : 0 ≤ IntKind.u64.wrap z ∧ IntKind.u64.wrap z ≤ 18446744073709551615 := by
  rw [IntKind.wrap_u64]
  omega
theorem rem_small (z : Int) (n : Nat) (h : 0 < n) : ∃ k : Nat, z % (n : Int) = (k : Int) ∧ k ≤ n - 1 := by
  have h1 := Int.emod_nonneg z (show (n : Int) ≠ 0 by omega)
  have h2 := Int.emod_lt_of_pos z (show (0 : Int) < n by omega)
  exact ⟨(z % n).toNat, by omega, by omega⟩

set_option maxRecDepth 100000 in
set_option maxHeartbeats 4000000 in
theorem cut_any (cs : Array Value) (x : Dg) (s0 s1 s2 s3 d0 d1 d2 d3 : UInt8) (a : Int) (w : World) (hx : DgC w 0 w.heap.size cs x) :
    Calls Try.prog 9 #[.agg cs, .agg #[.int .u8 (s0.toNat : Int), .int .u8 (s1.toNat : Int), .int .u8 (s2.toNat : Int), .int .u8 (s3.toNat : Int), .int .u8 (d0.toNat : Int), .int .u8 (d1.toNat : Int), .int .u8 (d2.toNat : Int), .int .u8 (d3.toNat : Int)], .int .i64 a] w fun e w' => e = .returned (.bool true) ∧ Below w.heap.size w w' := by
  have hx2 := hx
  obtain ⟨A, c, rfl, hok, hrd, hlc, hcm, hA⟩ := hx2
  obtain ⟨n, hn⟩ : ∃ n, x.data.length = n := ⟨_, rfl⟩
  rw [hn] at hx hlc ⊢
  obtain ⟨w1, hw1⟩ : ∃ w1, (w.alloc (.cells #[.int .u16 (x.src : Int), .int .u16 (x.dst : Int), .slice A n c] 43)).alloc (.cells #[.int .u8 (s0.toNat : Int), .int .u8 (s1.toNat : Int), .int .u8 (s2.toNat : Int), .int .u8 (s3.toNat : Int), .int .u8 (d0.toNat : Int), .int .u8 (d1.toNat : Int), .int .u8 (d2.toNat : Int), .int .u8 (d3.toNat : Int)] 29) = w1 := ⟨_, rfl⟩
  have HB1 : Hid (Below w.heap.size w w1) := by show Below _ _ _; rw [← hw1]; exact ((Below.refl _ _).alloc (Nat.le_refl _) _).alloc (by simp) _
  have HX1 : Hid (w1.heap[w.heap.size]? = some (.cells #[.int .u16 (x.src : Int), .int .u16 (x.dst : Int), .slice A n c] 43 (0, 0))) := by show _ = _; rw [← hw1]; exact old_alloc (heap_alloc_new w _) _
  have HE1 : Hid (w1.heap[w.heap.size + 1]? = some (.cells #[.int .u8 (s0.toNat : Int), .int .u8 (s1.toNat : Int), .int .u8 (s2.toNat : Int), .int .u8 (s3.toNat : Int), .int .u8 (d0.toNat : Int), .int .u8 (d1.toNat : Int), .int .u8 (d2.toNat : Int), .int .u8 (d3.toNat : Int)] 29 (0, 0))) := by
    have := heap_alloc_new (w.alloc (.cells #[.int .u16 (x.src : Int), .int .u16 (x.dst : Int), .slice A n c] 43)) (.cells #[.int .u8 (s0.toNat : Int), .int .u8 (s1.toNat : Int), .int .u8 (s2.toNat : Int), .int .u8 (s3.toNat : Int), .int .u8 (d0.toNat : Int), .int .u8 (d1.toNat : Int), .int .u8 (d2.toNat : Int), .int .u8 (d3.toNat : Int)] 29)
    rw [World.size_alloc] at this
    show _ = _
    rw [← hw1]
    exact this
  have HX := Lib.hid hx
  have HN := Lib.hid hn
  have HOK := Lib.hid hok
  unfold maxLen at hcm
  clear hx hn hok hrd hA
  go_enter Try.func9, Try.ntmps9
  go_wp2_with fail
  refine (lives_any _).mono ?_
  rintro e w2 ⟨rfl, hb2⟩
  have HB2 := Lib.hid (HB1.out.trans (hb2.mono HB1.out.size))
  have HX2 : Hid (w2.heap[w.heap.size]? = some (.cells #[.int .u16 (x.src : Int), .int .u16 (x.dst : Int), .slice A n c] 43 (0, 0))) := (hb2.block _ (row_lt HX1.out)).trans HX1.out
  have HE2 : Hid (w2.heap[w.heap.size + 1]? = some (.cells #[.int .u8 (s0.toNat : Int), .int .u8 (s1.toNat : Int), .int .u8 (s2.toNat : Int), .int .u8 (s3.toNat : Int), .int .u8 (d0.toNat : Int), .int .u8 (d1.toNat : Int), .int .u8 (d2.toNat : Int), .int .u8 (d3.toNat : Int)] 29 (0, 0))) := (hb2.block _ (row_lt HE1.out)).trans HE1.out
  have k2 : w2.cell? ⟨w.heap.size, 2, none⟩ = some (.slice A n c) := cell_of_row _ _ 2 _ _ _ HX2.out
  clear hb2
  by_cases hbig : 992 < n
  · go_wp2_with fail
    refine (lives_any _).mono ?_
    rintro e w3 ⟨rfl, hb3⟩
    have HB3 := Lib.hid (HB2.out.trans (hb3.mono HB2.out.size))
    clear hb3
    go_wp2
    go_ret
    exact ⟨rfl, HB3.out⟩
  · go_wp2_with (first | refine wpList_load_row rfl 43 _ rfl w.heap.size rfl 43 #[.int .u16 (x.src : Int), .int .u16 (x.dst : Int), .slice A n c] (0, 0) _ HX2.out Try.underlying43 rfl (by kernel_rfl) ?_ | refine wpList_load_at rfl 27 _ rfl ⟨w.heap.size + 1, 0, none⟩ rfl [.int .u8 (s0.toNat : Int), .int .u8 (s1.toNat : Int), .int .u8 (s2.toNat : Int), .int .u8 (s3.toNat : Int)] _ (ends_at HE2.out).1 Try.underlying27 rfl (by kernel_rfl) ?_ | refine wpList_load_at rfl 27 _ rfl ⟨w.heap.size + 1, 4, none⟩ rfl [.int .u8 (d0.toNat : Int), .int .u8 (d1.toNat : Int), .int .u8 (d2.toNat : Int), .int .u8 (d3.toNat : Int)] _ (ends_at HE2.out).2 Try.underlying27 rfl (by kernel_rfl) ?_)
    clear k2
    refine (build_dg _ x s0 s1 s2 s3 d0 d1 d2 d3 0 w.heap.size w2 (HX.out.below HB2.out (Nat.le_refl _)) HB2.out.size).mono ?_
    have HBP : Hid (dgBuild [s0, s1, s2, s3] [d0, d1, d2, d3] x = (x.bytes [s0, s1, s2, s3] [d0, d1, d2, d3], 0)) := by show _ = _; unfold dgBuild; rw [if_neg (by rw [HN.out]; omega)]
    rw [HBP.out]
    have HBL := Lib.hid (dg_length [s0, s1, s2, s3] [d0, d1, d2, d3] x)
    have HCT := Lib.hid (fun k hk => dg_cut (s := [s0, s1, s2, s3]) (d := [d0, d1, d2, d3]) (x := x) (by rw [HN.out]; omega) k hk)
    rintro e w3 ⟨A5, c5, rfl, ho, hb3⟩
    obtain ⟨bs, hbs⟩ : ∃ bs, x.bytes [s0, s1, s2, s3] [d0, d1, d2, d3] = bs := ⟨_, rfl⟩
    rw [hbs] at ho HBL HCT ⊢
    obtain ⟨L, hL⟩ : ∃ L, bs.length = L := ⟨_, rfl⟩
    rw [hL] at HBL ⊢
    have hLn : L = 8 + n := by have := HBL.out; rw [HN.out] at this; exact this
    have HLL := Lib.hid hL
    have hcap := own_cap ho
    rw [hL] at hcap
    obtain ⟨hcap1, hcap2⟩ := hcap
    unfold maxLen at hcap2
    have hro : Rd w3 0 w3.heap.size A5 (cells bs) := (Rd.own ho).wide (Nat.zero_le _) (Nat.le_refl _)
    obtain ⟨ad, rfl⟩ : ∃ ad, A5 = some ad := by
      obtain ⟨ad, e, _⟩ := hro.byte (k := 0) (by rw [hL]; omega)
      exact ⟨ad, e⟩
    have HRO := Lib.hid hro
    have HB3 := Lib.hid (HB2.out.trans (hb3.mono HB2.out.size))
    have HX3 : Hid (w3.heap[w.heap.size]? = some (.cells #[.int .u16 (x.src : Int), .int .u16 (x.dst : Int), .slice A n c] 43 (0, 0))) := (hb3.block _ (row_lt HX2.out)).trans HX2.out
    have HE3 : Hid (w3.heap[w.heap.size + 1]? = some (.cells #[.int .u8 (s0.toNat : Int), .int .u8 (s1.toNat : Int), .int .u8 (s2.toNat : Int), .int .u8 (s3.toNat : Int), .int .u8 (d0.toNat : Int), .int .u8 (d1.toNat : Int), .int .u8 (d2.toNat : Int), .int .u8 (d3.toNat : Int)] 29 (0, 0))) := (hb3.block _ (row_lt HE2.out)).trans HE2.out
    have k2 : w3.cell? ⟨w.heap.size, 2, none⟩ = some (.slice A n c) := cell_of_row _ _ 2 _ _ _ HX3.out
    have hl8 : (8 : Int) + (n : Int) = (L : Int) := by omega
    have q8 := bneF (rfl : (L : Int) = (L : Int))
    have hLa : 8 ≤ L := by omega
    have hLb : L ≤ 1000 := by omega
    have HLN := Lib.hid hLn
    clear ho hb3 hL hro hbs hLn
    go_wp2_with fail
    obtain ⟨hu1, hu2⟩ := u64_range a
    obtain ⟨k, hk1, hk2⟩ := rem_small (IntKind.u64.wrap a) L (by omega)
    have HT1 : Hid (IntKind.u64.wrap (L : Int) = (L : Int)) := IntWalk.u64_in _ ⟨by omega, by omega⟩
    have HT2 : Hid ((IntKind.u64.wrap a).tmod (L : Int) = (k : Int)) := by show _ = _; rw [Int.tmod_eq_emod_of_nonneg hu1]; exact hk1
    have HT3 : Hid (IntKind.u64.wrap (k : Int) = (k : Int)) := IntWalk.u64_in _ ⟨by omega, by omega⟩
    have hkL : k < L := by omega
    have hL0 : ¬ L = 0 := by omega
    have hk64 : IntKind.i64.wrap (k : Int) = (k : Int) := IntWalk.i64_in _ ⟨by omega, by omega⟩
    have HAD0 : Hid ((if c5 = 0 then some ad else (some ad).map (·.add (0 * 1))) = some ad) := by
      show _ = _
      rw [if_neg (by omega), Option.map_some, Nat.zero_mul]
      simp [Addr.add]
    have HS3 : Hid (∀ w', Gro (fun _ => False) w3 w' → ∀ j v, ([.int .u8 (s0.toNat : Int), .int .u8 (s1.toNat : Int), .int .u8 (s2.toNat : Int), .int .u8 (s3.toNat : Int)] : List Value)[j]? = some v → w'.cell? ((⟨w.heap.size + 1, 0, none⟩ : Addr).add j) = some v) := fun w' hg => (ends_at ((hg.block _ (row_lt HE3.out) (fun h => h)).trans HE3.out)).1
    have HD3 : Hid (∀ w', Gro (fun _ => False) w3 w' → ∀ j v, ([.int .u8 (d0.toNat : Int), .int .u8 (d1.toNat : Int), .int .u8 (d2.toNat : Int), .int .u8 (d3.toNat : Int)] : List Value)[j]? = some v → w'.cell? ((⟨w.heap.size + 1, 4, none⟩ : Addr).add j) = some v) := fun w' hg => (ends_at ((hg.block _ (row_lt HE3.out) (fun h => h)).trans HE3.out)).2
    have HOP : Hid (∀ w', Gro (fun _ => False) w3 w' → Calls Try.prog 13 #[.int .u8 17, .agg #[.int .u8 (s0.toNat : Int), .int .u8 (s1.toNat : Int), .int .u8 (s2.toNat : Int), .int .u8 (s3.toNat : Int)], .agg #[.int .u8 (d0.toNat : Int), .int .u8 (d1.toNat : Int), .int .u8 (d2.toNat : Int), .int .u8 (d3.toNat : Int)], .slice (some ad) k c5] w' (DgO w' (Dg.zero, 6))) := fun w' hg => by
      have hr := (HRO.out.below hg.belowF (Nat.le_refl _)).take k
      rw [cells_take] at hr
      have := open_dg (some ad) (bs.take k) k c5 0 w3.heap.size s0 s1 s2 s3 d0 d1 d2 d3 w' hr (by rw [List.length_take, HLL.out]; omega) (by omega) (by unfold maxLen; omega) hg.size (by omega)
      rw [HCT.out k (by rw [HN.out]; have := HLN.out; omega)] at this
      exact this
    clear k2 hl8 q8 hk1
    apply wp_region_rely (fun _ => False) (RL [Is _, Is (.agg #[.int .u8 (s0.toNat : Int), .int .u8 (s1.toNat : Int), .int .u8 (s2.toNat : Int), .int .u8 (s3.toNat : Int)]), Is _, Is (.agg #[.int .u8 (d0.toNat : Int), .int .u8 (d1.toNat : Int), .int .u8 (d2.toNat : Int), .int .u8 (d3.toNat : Int)]), Is _, Is _, Is _, Is _, Is _, Is _, Is (.int .u64 (k : Int)), Is (.int .i64 (k : Int)), Is (.slice (some ad) k c5), Is (.tuple #[.nilIface, .int .i64 6]), Is _, Is _, Is _, Is _, Is _]) [false, false, false, false, false, false, false, false, false, true, true, false, false, false, false, false, false, false, false, false, false, false, false, false, false, false, false, false, false, false, false, false, false, false, false, false, false, false, false, false, false, true, true, true, true, true, true, true, true, true, true, true, true, true, true, true, true, true, false, false, false, false, false, false]
    · kernel_rfl
    · kernel_rfl
    · kernel_rfl
    · refine ⟨?_, ?_, ?_, ?_, ?_, ?_, ?_, ?_, ?_, ?_, ?_, ?_, ?_, ?_, ?_, ?_, ?_, ?_, ?_, trivial⟩
      · intro ev w' hC hc hf hb hr K hK
        have e4 : ev (.tmp 4) = _ := hb 4 (by kernel_rfl)
        have HK := Lib.hid hK
        have HC := Lib.hid hC
        clear hb hr hK hC hf
        unfold Run
        simp [execOp, Upon, go_sem, *]
        exact HK.out _ _ (.inl (Below.refl _ _)) rfl
      · intro ev w' hC hc hf hb hr K hK
        have e42 := hr 0 _ rfl (by kernel_rfl)
        change ev (.tmp 42) = _ at e42
        have HK := Lib.hid hK
        have HC := Lib.hid hC
        clear hb hr hK hC hf
        have hl := run_loadVar_at (P := Try.prog) w' ⟨w.heap.size + 1, 0, none⟩ 27 ([.int .u8 (s0.toNat : Int), .int .u8 (s1.toNat : Int), .int .u8 (s2.toNat : Int), .int .u8 (s3.toNat : Int)]) _ (HS3.out w' HC.out) Try.underlying27 rfl (by kernel_rfl)
        have q : ev (.tmp 42) = .pointer (some ⟨w.heap.size + 1, 0, none⟩) := e42
        unfold Run
        rw [run_loadE 27 _ rfl q hl]
        exact HK.out _ _ (.inl (Below.refl _ _)) rfl
      · intro ev w' hC hc hf hb hr K hK
        have e4 : ev (.tmp 4) = _ := hb 4 (by kernel_rfl)
        have HK := Lib.hid hK
        have HC := Lib.hid hC
        clear hb hr hK hC hf
        unfold Run
        simp [execOp, Upon, go_sem, *]
        exact HK.out _ _ (.inl (Below.refl _ _)) rfl
      · intro ev w' hC hc hf hb hr K hK
        have e44 := hr 2 _ rfl (by kernel_rfl)
        change ev (.tmp 44) = _ at e44
        have HK := Lib.hid hK
        have HC := Lib.hid hC
        clear hb hr hK hC hf
        have hl := run_loadVar_at (P := Try.prog) w' ⟨w.heap.size + 1, 4, none⟩ 27 ([.int .u8 (d0.toNat : Int), .int .u8 (d1.toNat : Int), .int .u8 (d2.toNat : Int), .int .u8 (d3.toNat : Int)]) _ (HD3.out w' HC.out) Try.underlying27 rfl (by kernel_rfl)
        have q : ev (.tmp 44) = .pointer (some ⟨w.heap.size + 1, 4, none⟩) := e44
        unfold Run
        rw [run_loadE 27 _ rfl q hl]
        exact HK.out _ _ (.inl (Below.refl _ _)) rfl
      · intro ev w' hC hc hf hb hr K hK
        have e7 : ev (.tmp 7) = _ := hb 7 (by kernel_rfl)
        have HK := Lib.hid hK
        have HC := Lib.hid hC
        clear hb hr hK hC hf
        unfold Run
        simp [execOp, Upon, go_sem, *]
        exact HK.out _ _ (.inl (Below.refl _ _)) rfl
      · intro ev w' hC hc hf hb hr K hK
        have e2 : ev (.tmp 2) = _ := hb 2 (by kernel_rfl)
        have HK := Lib.hid hK
        have HC := Lib.hid hC
        clear hb hr hK hC hf
        unfold Run
        simp [execOp, Upon, go_sem, *]
        exact HK.out _ _ (.inl (Below.refl _ _)) rfl
      · intro ev w' hC hc hf hb hr K hK
        have e47 := hr 5 _ rfl (by kernel_rfl)
        change ev (.tmp 47) = _ at e47
        have HK := Lib.hid hK
        have HC := Lib.hid hC
        clear hb hr hK hC hf
        unfold Run
        simp [execOp, Upon, go_sem, *]
        exact HK.out _ _ (.inl (Below.refl _ _)) rfl
      · intro ev w' hC hc hf hb hr K hK
        have e7 : ev (.tmp 7) = _ := hb 7 (by kernel_rfl)
        have HK := Lib.hid hK
        have HC := Lib.hid hC
        clear hb hr hK hC hf
        unfold Run
        simp [execOp, Upon, go_sem, *]
        exact HK.out _ _ (.inl (Below.refl _ _)) rfl
      · intro ev w' hC hc hf hb hr K hK
        have e49 := hr 7 _ rfl (by kernel_rfl)
        change ev (.tmp 49) = _ at e49
        have HK := Lib.hid hK
        have HC := Lib.hid hC
        clear hb hr hK hC hf
        unfold Run
        rw [run_lenE _ 23 5 Try.underlying23 rfl e49]
        exact HK.out _ _ (.inl (Below.refl _ _)) rfl
      · intro ev w' hC hc hf hb hr K hK
        have e50 := hr 8 _ rfl (by kernel_rfl)
        change ev (.tmp 50) = _ at e50
        have HK := Lib.hid hK
        have HC := Lib.hid hC
        clear hb hr hK hC hf
        unfold Run
        simp [execOp, Upon, go_sem, *]
        exact HK.out _ _ (.inl (Below.refl _ _)) rfl
      · intro ev w' hC hc hf hb hr K hK
        have e48 := hr 6 _ rfl (by kernel_rfl)
        have e51 := hr 9 _ rfl (by kernel_rfl)
        change ev (.tmp 48) = _ at e48
        change ev (.tmp 51) = _ at e51
        have HK := Lib.hid hK
        have HC := Lib.hid hC
        clear hb hr hK hC hf
        have t1 := HT1.out
        have t2 := HT2.out
        have t3 := HT3.out
        unfold Run
        simp [execOp, Upon, go_sem, *]
        exact HK.out _ _ (.inl (Below.refl _ _)) rfl
      · intro ev w' hC hc hf hb hr K hK
        have e52 := hr 10 _ rfl (by kernel_rfl)
        change ev (.tmp 52) = _ at e52
        have HK := Lib.hid hK
        have HC := Lib.hid hC
        clear hb hr hK hC hf
        have t1 := HT1.out
        have t2 := HT2.out
        unfold Run
        simp [execOp, Upon, go_sem, *]
        exact HK.out _ _ (.inl (Below.refl _ _)) rfl
      · intro ev w' hC hc hf hb hr K hK
        have e46 := hr 4 _ rfl (by kernel_rfl)
        have e53 := hr 11 _ rfl (by kernel_rfl)
        change ev (.tmp 46) = _ at e46
        change ev (.tmp 53) = _ at e53
        have HK := Lib.hid hK
        have HC := Lib.hid hC
        clear hb hr hK hC hf
        have hrun := run_slice_h (P := Try.prog) 23 5 1 Try.underlying23 (by kernel_rfl) (some ad) L c5 k (by omega) w'
        rw [HAD0.out] at hrun
        unfold Run
        rw [run_sliceE 23 _ none (some _) rfl Try.underlying23 e46 (by simp only [Option.map_some, Option.map_none, e53]; exact hrun)]
        exact HK.out _ _ (.inl (Below.refl _ _)) rfl
      · intro ev w' hC hc hf hb hr K hK
        have e43 := hr 1 _ rfl (by kernel_rfl)
        have e45 := hr 3 _ rfl (by kernel_rfl)
        have e54 := hr 12 _ rfl (by kernel_rfl)
        change ev (.tmp 43) = _ at e43
        change ev (.tmp 45) = _ at e45
        change ev (.tmp 54) = _ at e54
        have HK := Lib.hid hK
        have HC := Lib.hid hC
        clear hb hr hK hC
        have HO := Lib.hid (HOP.out w' HC.out)
        unfold Run
        simp [execOp, Upon, go_sem, *]
        refine HO.out.mono ?_
        rintro e w2 ⟨m, rfl, hb, -, hm⟩
        rw [hm (by decide)]
        exact ⟨_, rfl, HK.out _ _ (.inl hb) rfl⟩
      · intro ev w' hC hc hf hb hr K hK
        have e55 := hr 13 _ rfl (by kernel_rfl)
        change ev (.tmp 55) = _ at e55
        have HK := Lib.hid hK
        have HC := Lib.hid hC
        clear hb hr hK hC hf
        unfold Run
        simp [execOp, Upon, go_sem, *]
        exact HK.out _ _ (.inl (Below.refl _ _)) rfl
      · intro ev w' hC hc hf hb hr K hK
        have e41 := hr 14 _ rfl (by kernel_rfl)
        change ev (.tmp 41) = _ at e41
        have HK := Lib.hid hK
        have HC := Lib.hid hC
        clear hb hr hK hC hf
        unfold Run
        simp [execOp, Upon, go_sem, *]
        exact HK.out _ _ (.inl (Below.refl _ _)) rfl
      · intro ev w' hC hc hf hb hr K hK
        have e41 := hr 14 _ rfl (by kernel_rfl)
        change ev (.tmp 41) = _ at e41
        have HK := Lib.hid hK
        have HC := Lib.hid hC
        clear hb hr hK hC hf
        unfold Run
        simp [execOp, Upon, go_sem, *]
        exact HK.out _ _ (.inl (Below.refl _ _)) rfl
      · intro ev w' hC hc hf hb hr K hK
        have e56 := hr 15 _ rfl (by kernel_rfl)
        change ev (.tmp 56) = _ at e56
        have HK := Lib.hid hK
        have HC := Lib.hid hC
        clear hb hr hK hC hf
        unfold Run
        simp [execOp, Upon, go_sem, *]
        exact HK.out _ _ (.inl (Below.refl _ _)) rfl
      · intro ev w' hC hc hf hb hr K hK
        have e57 := hr 16 _ rfl (by kernel_rfl)
        change ev (.tmp 57) = _ at e57
        have HK := Lib.hid hK
        have HC := Lib.hid hC
        clear hb hr hK hC hf
        unfold Run
        simp [execOp, Upon, go_sem, *]
        exact HK.out _ _ (.inl (Below.refl _ _)) rfl
    · exact rl_mono ⟨is_mono _, is_mono _, is_mono _, is_mono _, is_mono _, is_mono _, is_mono _, is_mono _, is_mono _, is_mono _, is_mono _, is_mono _, is_mono _, is_mono _, is_mono _, is_mono _, is_mono _, is_mono _, is_mono _, trivial⟩
    intro us wr hG hH
    obtain ⟨-, -, -, -, -, -, -, -, -, -, -, -, -, -, -, -, -, h17, h18, -⟩ := hH
    simp only [fillM]
    change us 9 = _ at h17
    rw [h17]
    clear h17
    change us 10 = _ at h18
    rw [h18]
    clear h18
    generalize us 42 = v42
    generalize us 43 = v43
    generalize us 44 = v44
    generalize us 45 = v45
    generalize us 46 = v46
    generalize us 47 = v47
    generalize us 48 = v48
    generalize us 49 = v49
    generalize us 50 = v50
    generalize us 51 = v51
    generalize us 52 = v52
    generalize us 53 = v53
    generalize us 54 = v54
    generalize us 55 = v55
    generalize us 41 = v41
    generalize us 56 = v56
    generalize us 57 = v57
    have HB4 := Lib.hid (HB3.out.trans (hG.belowF.mono HB3.out.size))
    clear hG
    go_wp2
    go_ret
    exact ⟨rfl, HB4.out⟩
end Go.Proofs.Ythkpkhhnlenioaa
