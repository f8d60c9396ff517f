/-
  The law DgramEchoes: every Echo, every two hosts. No condition.
-/
import Derived.Test.YthkpkhhnlenioaaRefB
namespace Go.Proofs.Ythkpkhhnlenioaa
open Go.RowKit

set_option maxRecDepth 100000 in
set_option maxHeartbeats 4000000 in
theorem echoes_any (cs : Array Value) (x : Ec) (s0 s1 s2 s3 d0 d1 d2 d3 : UInt8) (w : World) (hx : EcC w 0 w.heap.size cs x) :
    Calls Try.prog 3 #[.agg cs, .agg #[.int .u8 (s0.toNat : Int), .int .u8 (s1.toNat : Int), .int .u8 (s2.toNat : Int), .int .u8 (s3.toNat : Int), .int .u8 (d0.toNat : Int), .int .u8 (d1.toNat : Int), .int .u8 (d2.toNat : Int), .int .u8 (d3.toNat : Int)]] w fun e w' => e = .returned (.bool true) ∧ Below w.heap.size w w' := by
  have hx2 := hx
  obtain ⟨A, c, rfl, hok, hrd, hlc, hcm, hA⟩ := hx2
  obtain ⟨n, hn⟩ : ∃ n, x.data.length = n := ⟨_, rfl⟩
  rw [hn] at hx hlc ⊢
  obtain ⟨w1, hw1⟩ : ∃ w1, (w.alloc (.cells #[.bool x.reply, .int .u16 (x.id : Int), .int .u16 (x.seq : Int), .slice A n c] 25)).alloc (.cells #[.int .u8 (s0.toNat : Int), .int .u8 (s1.toNat : Int), .int .u8 (s2.toNat : Int), .int .u8 (s3.toNat : Int), .int .u8 (d0.toNat : Int), .int .u8 (d1.toNat : Int), .int .u8 (d2.toNat : Int), .int .u8 (d3.toNat : Int)] 29) = w1 := ⟨_, rfl⟩
  have HB1 : Hid (Below w.heap.size w w1) := by show Below _ _ _; rw [← hw1]; exact ((Below.refl _ _).alloc (Nat.le_refl _) _).alloc (by simp) _
  have HX1 : Hid (w1.heap[w.heap.size]? = some (.cells #[.bool x.reply, .int .u16 (x.id : Int), .int .u16 (x.seq : Int), .slice A n c] 25 (0, 0))) := by show _ = _; rw [← hw1]; exact old_alloc (heap_alloc_new w _) _
  have HE1 : Hid (w1.heap[w.heap.size + 1]? = some (.cells #[.int .u8 (s0.toNat : Int), .int .u8 (s1.toNat : Int), .int .u8 (s2.toNat : Int), .int .u8 (s3.toNat : Int), .int .u8 (d0.toNat : Int), .int .u8 (d1.toNat : Int), .int .u8 (d2.toNat : Int), .int .u8 (d3.toNat : Int)] 29 (0, 0))) := by
    have := heap_alloc_new (w.alloc (.cells #[.bool x.reply, .int .u16 (x.id : Int), .int .u16 (x.seq : Int), .slice A n c] 25)) (.cells #[.int .u8 (s0.toNat : Int), .int .u8 (s1.toNat : Int), .int .u8 (s2.toNat : Int), .int .u8 (s3.toNat : Int), .int .u8 (d0.toNat : Int), .int .u8 (d1.toNat : Int), .int .u8 (d2.toNat : Int), .int .u8 (d3.toNat : Int)] 29)
    rw [World.size_alloc] at this
    show _ = _
    rw [← hw1]
    exact this
  have HX := Lib.hid hx
  have HN := Lib.hid hn
  have HOK := Lib.hid hok
  unfold maxLen at hcm
  clear hx hn hok hrd hA
  go_enter Try.func3, Try.ntmps3
  go_wp2_with fail
  refine (lives_any _).mono ?_
  rintro e w2 ⟨rfl, hb2⟩
  have HB2 := Lib.hid (HB1.out.trans (hb2.mono HB1.out.size))
  have HX2 : Hid (w2.heap[w.heap.size]? = some (.cells #[.bool x.reply, .int .u16 (x.id : Int), .int .u16 (x.seq : Int), .slice A n c] 25 (0, 0))) := (hb2.block _ (row_lt HX1.out)).trans HX1.out
  have HE2 : Hid (w2.heap[w.heap.size + 1]? = some (.cells #[.int .u8 (s0.toNat : Int), .int .u8 (s1.toNat : Int), .int .u8 (s2.toNat : Int), .int .u8 (s3.toNat : Int), .int .u8 (d0.toNat : Int), .int .u8 (d1.toNat : Int), .int .u8 (d2.toNat : Int), .int .u8 (d3.toNat : Int)] 29 (0, 0))) := (hb2.block _ (row_lt HE1.out)).trans HE1.out
  have k3 : w2.cell? ⟨w.heap.size, 3, none⟩ = some (.slice A n c) := cell_of_row _ _ 3 _ _ _ HX2.out
  clear hb2
  by_cases hbig : 1500 < n
  · go_wp2_with fail
    refine (lives_any _).mono ?_
    rintro e w3 ⟨rfl, hb3⟩
    have HB3 := Lib.hid (HB2.out.trans (hb3.mono HB2.out.size))
    clear hb3
    go_wp2
    go_ret
    exact ⟨rfl, HB3.out⟩
  · go_wp2_with (first | refine wpList_load_row rfl 25 _ rfl w.heap.size rfl 25 #[.bool x.reply, .int .u16 (x.id : Int), .int .u16 (x.seq : Int), .slice A n c] (0, 0) _ HX2.out Try.underlying25 rfl (by kernel_rfl) ?_ | refine wpList_load_at rfl 27 _ rfl ⟨w.heap.size + 1, 0, none⟩ rfl [.int .u8 (s0.toNat : Int), .int .u8 (s1.toNat : Int), .int .u8 (s2.toNat : Int), .int .u8 (s3.toNat : Int)] _ (ends_at HE2.out).1 Try.underlying27 rfl (by kernel_rfl) ?_ | refine wpList_load_at rfl 27 _ rfl ⟨w.heap.size + 1, 4, none⟩ rfl [.int .u8 (d0.toNat : Int), .int .u8 (d1.toNat : Int), .int .u8 (d2.toNat : Int), .int .u8 (d3.toNat : Int)] _ (ends_at HE2.out).2 Try.underlying27 rfl (by kernel_rfl) ?_)
    clear k3
    refine (build_ec _ x s0 s1 s2 s3 d0 d1 d2 d3 0 w.heap.size w2 (HX.out.below HB2.out (Nat.le_refl _)) HB2.out.size).mono ?_
    have hcase : (ecBuild x = (x.bytes, 0) ∧ n ≤ 992) ∨ ecBuild x = ([], 4) := by
      unfold ecBuild
      by_cases h9 : 992 < x.data.length
      · exact .inr (if_pos h9)
      · exact .inl ⟨if_neg h9, by have := HN.out; omega⟩
    obtain ⟨bs, z, hbz⟩ : ∃ bs z, ecBuild x = (bs, z) := ⟨_, _, rfl⟩
    rw [hbz] at hcase ⊢
    rintro e w3 ⟨A5, c5, rfl, ho, hb3⟩
    simp only at ho ⊢
    have HX3 : Hid (w3.heap[w.heap.size]? = some (.cells #[.bool x.reply, .int .u16 (x.id : Int), .int .u16 (x.seq : Int), .slice A n c] 25 (0, 0))) := (hb3.block _ (row_lt HX2.out)).trans HX2.out
    have HE3 : Hid (w3.heap[w.heap.size + 1]? = some (.cells #[.int .u8 (s0.toNat : Int), .int .u8 (s1.toNat : Int), .int .u8 (s2.toNat : Int), .int .u8 (s3.toNat : Int), .int .u8 (d0.toNat : Int), .int .u8 (d1.toNat : Int), .int .u8 (d2.toNat : Int), .int .u8 (d3.toNat : Int)] 29 (0, 0))) := (hb3.block _ (row_lt HE2.out)).trans HE2.out
    have HB3 := Lib.hid (HB2.out.trans (hb3.mono HB2.out.size))
    have hro := (Rd.own ho).wide (Nat.zero_le _) (Nat.le_refl _)
    have hcap := own_cap ho
    obtain ⟨L, hL⟩ : ∃ L, bs.length = L := ⟨_, rfl⟩
    rw [hL] at hcap ⊢
    obtain ⟨hcap1, hcap2⟩ := hcap
    have HCP2 := Lib.hid hcap2
    have HL := Lib.hid hL
    have HRO := Lib.hid hro
    have HBZ := Lib.hid hbz
    have HOKX := HOK
    clear ho hb3 hro hL hbz hcap2
    go_wp2_with (first | refine wpList_load_row rfl 25 _ rfl w.heap.size rfl 25 #[.bool x.reply, .int .u16 (x.id : Int), .int .u16 (x.seq : Int), .slice A n c] (0, 0) _ HX3.out Try.underlying25 rfl (by kernel_rfl) ?_ | refine wpList_load_at rfl 27 _ rfl ⟨w.heap.size + 1, 0, none⟩ rfl [.int .u8 (s0.toNat : Int), .int .u8 (s1.toNat : Int), .int .u8 (s2.toNat : Int), .int .u8 (s3.toNat : Int)] _ (ends_at HE3.out).1 Try.underlying27 rfl (by kernel_rfl) ?_ | refine wpList_load_at rfl 27 _ rfl ⟨w.heap.size + 1, 4, none⟩ rfl [.int .u8 (d0.toNat : Int), .int .u8 (d1.toNat : Int), .int .u8 (d2.toNat : Int), .int .u8 (d3.toNat : Int)] _ (ends_at HE3.out).2 Try.underlying27 rfl (by kernel_rfl) ?_)
    refine (refec_any _ x 0 w.heap.size w3 (HX.out.below HB3.out (Nat.le_refl _)) HB3.out.size).mono ?_
    rw [HBZ.out]
    rintro e w4 ⟨rfl, hb4⟩
    simp only
    have HX4 : Hid (w4.heap[w.heap.size]? = some (.cells #[.bool x.reply, .int .u16 (x.id : Int), .int .u16 (x.seq : Int), .slice A n c] 25 (0, 0))) := (hb4.block _ (row_lt HX3.out)).trans HX3.out
    have HE4 : Hid (w4.heap[w.heap.size + 1]? = some (.cells #[.int .u8 (s0.toNat : Int), .int .u8 (s1.toNat : Int), .int .u8 (s2.toNat : Int), .int .u8 (s3.toNat : Int), .int .u8 (d0.toNat : Int), .int .u8 (d1.toNat : Int), .int .u8 (d2.toNat : Int), .int .u8 (d3.toNat : Int)] 29 (0, 0))) := (hb4.block _ (row_lt HE3.out)).trans HE3.out
    have HB4 := Lib.hid (HB3.out.trans (hb4.mono HB3.out.size))
    have HRO4 := Lib.hid ((HRO.out.below hb4 (Nat.le_refl _)).wide (Nat.le_refl _) hb4.size)
    have ht := run_text (P := Try.prog) _ 23 9 5 c5 Try.underlying23 Try.underlying5 Try.underlying9 HRO4.out
    rw [HL.out] at ht
    have qz := bneF (rfl : z = z)
    clear hb4
    rcases hcase with ⟨hce, hn9⟩ | hce
    · obtain ⟨rfl, rfl⟩ : bs = x.bytes ∧ z = 0 := by injection hce with h1 h2; exact ⟨h1, h2⟩
      have hLn : L ≤ 1000 := by have h1 := HL.out; rw [ec_length, HN.out] at h1; omega
      have hopx := ec_open_bytes HOK.out
      generalize x.bytes = bs at *
      go_wp2_with (first | refine wpList_load_row rfl 25 _ rfl w.heap.size rfl 25 #[.bool x.reply, .int .u16 (x.id : Int), .int .u16 (x.seq : Int), .slice A n c] (0, 0) _ HX4.out Try.underlying25 rfl (by kernel_rfl) ?_ | refine wpList_load_at rfl 27 _ rfl ⟨w.heap.size + 1, 0, none⟩ rfl [.int .u8 (s0.toNat : Int), .int .u8 (s1.toNat : Int), .int .u8 (s2.toNat : Int), .int .u8 (s3.toNat : Int)] _ (ends_at HE4.out).1 Try.underlying27 rfl (by kernel_rfl) ?_ | refine wpList_load_at rfl 27 _ rfl ⟨w.heap.size + 1, 4, none⟩ rfl [.int .u8 (d0.toNat : Int), .int .u8 (d1.toNat : Int), .int .u8 (d2.toNat : Int), .int .u8 (d3.toNat : Int)] _ (ends_at HE4.out).2 Try.underlying27 rfl (by kernel_rfl) ?_)
      refine (open_ec A5 bs L c5 0 w4.heap.size d0 d1 d2 d3 s0 s1 s2 s3 w4 HRO4.out HL.out hcap1 HCP2.out (Nat.le_refl _) hLn).mono ?_
      rw [hopx]
      rintro e w5 ⟨m, rfl, hb5, hm0, -⟩
      obtain ⟨ds, rfl, hds⟩ := hm0 rfl
      simp only
      have HX5 : Hid (w5.heap[w.heap.size]? = some (.cells #[.bool x.reply, .int .u16 (x.id : Int), .int .u16 (x.seq : Int), .slice A n c] 25 (0, 0))) := (hb5.block _ (row_lt HX4.out)).trans HX4.out
      have HE5 : Hid (w5.heap[w.heap.size + 1]? = some (.cells #[.int .u8 (s0.toNat : Int), .int .u8 (s1.toNat : Int), .int .u8 (s2.toNat : Int), .int .u8 (s3.toNat : Int), .int .u8 (d0.toNat : Int), .int .u8 (d1.toNat : Int), .int .u8 (d2.toNat : Int), .int .u8 (d3.toNat : Int)] 29 (0, 0))) := (hb5.block _ (row_lt HE4.out)).trans HE4.out
      have HB5 := Lib.hid (HB4.out.trans (hb5.mono HB4.out.size))
      have HDS := Lib.hid (hds.wide (lo' := w.heap.size) HB4.out.size (Nat.le_refl _))
      clear hb5 hm0 hds ht hce hopx qz
      unfold ecM
      have k0 : World.cell? w5 ⟨w.heap.size, 0, none⟩ = some (.bool x.reply) := cell_of_row _ _ 0 _ _ _ HX5.out
      have k1 : World.cell? w5 ⟨w.heap.size, 1, none⟩ = some (.int .u16 (x.id : Int)) := cell_of_row _ _ 1 _ _ _ HX5.out
      have k2 : World.cell? w5 ⟨w.heap.size, 2, none⟩ = some (.int .u16 (x.seq : Int)) := cell_of_row _ _ 2 _ _ _ HX5.out
      have k3 : World.cell? w5 ⟨w.heap.size, 3, none⟩ = some (.slice A n c) := cell_of_row _ _ 3 _ _ _ HX5.out
      go_wp2_with fail
      clear k0 k1 k2 k3
      refine (same_ec ds _ x x w.heap.size w5.heap.size 0 w.heap.size w5 HDS.out (HX.out.below HB5.out (Nat.le_refl _)) (Nat.le_refl _) HB5.out.size).mono ?_
      rw [ecEq_self]
      rintro e w6 ⟨rfl, hb6⟩
      have HX6 : Hid (w6.heap[w.heap.size]? = some (.cells #[.bool x.reply, .int .u16 (x.id : Int), .int .u16 (x.seq : Int), .slice A n c] 25 (0, 0))) := (hb6.block _ (row_lt HX5.out)).trans HX5.out
      have HE6 : Hid (w6.heap[w.heap.size + 1]? = some (.cells #[.int .u8 (s0.toNat : Int), .int .u8 (s1.toNat : Int), .int .u8 (s2.toNat : Int), .int .u8 (s3.toNat : Int), .int .u8 (d0.toNat : Int), .int .u8 (d1.toNat : Int), .int .u8 (d2.toNat : Int), .int .u8 (d3.toNat : Int)] 29 (0, 0))) := (hb6.block _ (row_lt HE5.out)).trans HE5.out
      have HB6 := Lib.hid (HB5.out.trans (hb6.mono HB5.out.size))
      have HDS6 := Lib.hid ((HDS.out.below hb6 (Nat.le_refl _)).wide (Nat.le_refl _) hb6.size)
      clear hb6
      have k0 : World.cell? w6 ⟨w.heap.size, 0, none⟩ = some (.bool x.reply) := cell_of_row _ _ 0 _ _ _ HX6.out
      have k1 : World.cell? w6 ⟨w.heap.size, 1, none⟩ = some (.int .u16 (x.id : Int)) := cell_of_row _ _ 1 _ _ _ HX6.out
      have k2 : World.cell? w6 ⟨w.heap.size, 2, none⟩ = some (.int .u16 (x.seq : Int)) := cell_of_row _ _ 2 _ _ _ HX6.out
      have k3 : World.cell? w6 ⟨w.heap.size, 3, none⟩ = some (.slice A n c) := cell_of_row _ _ 3 _ _ _ HX6.out
      go_wp2_with fail
      clear k0 k1 k2 k3
      refine (same_ec _ ds x x 0 w.heap.size w.heap.size w6.heap.size w6 (HX.out.below HB6.out (Nat.le_refl _)) HDS6.out HB6.out.size (Nat.le_refl _)).mono ?_
      rw [ecEq_self]
      rintro e w7 ⟨rfl, hb7⟩
      have HB7 := Lib.hid (HB6.out.trans (hb7.mono HB6.out.size))
      clear hb7
      go_wp2
      go_ret
      exact ⟨rfl, HB7.out⟩
    · obtain ⟨rfl, rfl⟩ : bs = [] ∧ z = 4 := by injection hce with h1 h2; exact ⟨h1, h2⟩
      have hL0 : L = 0 := by have h1 := HL.out; simp at h1; omega
      subst hL0
      go_wp2_with (first | refine wpList_load_row rfl 25 _ rfl w.heap.size rfl 25 #[.bool x.reply, .int .u16 (x.id : Int), .int .u16 (x.seq : Int), .slice A n c] (0, 0) _ HX4.out Try.underlying25 rfl (by kernel_rfl) ?_ | refine wpList_load_at rfl 27 _ rfl ⟨w.heap.size + 1, 0, none⟩ rfl [.int .u8 (s0.toNat : Int), .int .u8 (s1.toNat : Int), .int .u8 (s2.toNat : Int), .int .u8 (s3.toNat : Int)] _ (ends_at HE4.out).1 Try.underlying27 rfl (by kernel_rfl) ?_ | refine wpList_load_at rfl 27 _ rfl ⟨w.heap.size + 1, 4, none⟩ rfl [.int .u8 (d0.toNat : Int), .int .u8 (d1.toNat : Int), .int .u8 (d2.toNat : Int), .int .u8 (d3.toNat : Int)] _ (ends_at HE4.out).2 Try.underlying27 rfl (by kernel_rfl) ?_)
      refine (open_ec A5 [] 0 c5 0 w4.heap.size d0 d1 d2 d3 s0 s1 s2 s3 w4 HRO4.out rfl hcap1 HCP2.out (Nat.le_refl _) (by omega)).mono ?_
      obtain ⟨q, er, hqe⟩ : ∃ q er, ecOpen [] = (q, er) := ⟨_, _, rfl⟩
      rw [hqe]
      rintro e w5 ⟨m, rfl, hb5, -, -⟩
      simp only
      have HB5 := Lib.hid (HB4.out.trans (hb5.mono HB4.out.size))
      clear hb5 ht hce hqe qz
      go_wp2
      go_ret
      exact ⟨rfl, HB5.out⟩
end Go.Proofs.Ythkpkhhnlenioaa
