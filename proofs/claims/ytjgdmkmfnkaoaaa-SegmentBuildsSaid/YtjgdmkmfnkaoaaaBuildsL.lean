/-
  The law SegmentBuilds: every segment, every two hosts. No condition.
-/
import Derived.Test.YtjgdmkmfnkaoaaaShapesS
namespace Go.Proofs.Ytjgdmkmfnkaoaaa
open Go.RowKit

set_option maxRecDepth 100000 in
set_option maxHeartbeats 4000000 in
theorem builds_any (cs : Array Value) (x : Sg) (s0 s1 s2 s3 d0 d1 d2 d3 : UInt8) (w : World) (hx : SgC w 0 w.heap.size cs x) :
    Calls Try.prog 3 #[.agg cs, .agg #[.int .u8 (s0.toNat : Int), .int .u8 (s1.toNat : Int), .int .u8 (s2.toNat : Int), .int .u8 (s3.toNat : Int), .int .u8 (d0.toNat : Int), .int .u8 (d1.toNat : Int), .int .u8 (d2.toNat : Int), .int .u8 (d3.toNat : Int)]] w fun e w' => e = .returned (.bool true) ∧ Below w.heap.size w w' := by
  have hx2 := hx
  obtain ⟨A, c, rfl, hok, hrd, hlc, hcm, hA⟩ := hx2
  obtain ⟨n, hn⟩ : ∃ n, x.data.length = n := ⟨_, rfl⟩
  rw [hn] at hx hlc ⊢
  obtain ⟨w1, hw1⟩ : ∃ w1, (w.alloc (.cells #[.int .u16 (x.src : Int), .int .u16 (x.dst : Int), .int .u32 (x.seq : Int), .int .u32 (x.ack : Int), .int .u8 (x.flags.toNat : Int), .int .u16 (x.wnd : Int), .int .u16 (x.mss : Int), .slice A n c] 26)).alloc (.cells #[.int .u8 (s0.toNat : Int), .int .u8 (s1.toNat : Int), .int .u8 (s2.toNat : Int), .int .u8 (s3.toNat : Int), .int .u8 (d0.toNat : Int), .int .u8 (d1.toNat : Int), .int .u8 (d2.toNat : Int), .int .u8 (d3.toNat : Int)] 30) = w1 := ⟨_, rfl⟩
  have HB1 : Hid (Below w.heap.size w w1) := by show Below _ _ _; rw [← hw1]; exact ((Below.refl _ _).alloc (Nat.le_refl _) _).alloc (by simp) _
  have HX1 : Hid (w1.heap[w.heap.size]? = some (.cells #[.int .u16 (x.src : Int), .int .u16 (x.dst : Int), .int .u32 (x.seq : Int), .int .u32 (x.ack : Int), .int .u8 (x.flags.toNat : Int), .int .u16 (x.wnd : Int), .int .u16 (x.mss : Int), .slice A n c] 26 (0, 0))) := by show _ = _; rw [← hw1]; exact old_alloc (heap_alloc_new w _) _
  have HE1 : Hid (w1.heap[w.heap.size + 1]? = some (.cells #[.int .u8 (s0.toNat : Int), .int .u8 (s1.toNat : Int), .int .u8 (s2.toNat : Int), .int .u8 (s3.toNat : Int), .int .u8 (d0.toNat : Int), .int .u8 (d1.toNat : Int), .int .u8 (d2.toNat : Int), .int .u8 (d3.toNat : Int)] 30 (0, 0))) := by
    have := heap_alloc_new (w.alloc (.cells #[.int .u16 (x.src : Int), .int .u16 (x.dst : Int), .int .u32 (x.seq : Int), .int .u32 (x.ack : Int), .int .u8 (x.flags.toNat : Int), .int .u16 (x.wnd : Int), .int .u16 (x.mss : Int), .slice A n c] 26)) (.cells #[.int .u8 (s0.toNat : Int), .int .u8 (s1.toNat : Int), .int .u8 (s2.toNat : Int), .int .u8 (s3.toNat : Int), .int .u8 (d0.toNat : Int), .int .u8 (d1.toNat : Int), .int .u8 (d2.toNat : Int), .int .u8 (d3.toNat : Int)] 30)
    rw [World.size_alloc] at this
    show _ = _
    rw [← hw1]
    exact this
  have HW1 := Lib.hid hw1
  have HX := Lib.hid hx
  have HN := Lib.hid hn
  have HOK := Lib.hid hok
  unfold maxLen at hcm
  clear hx hn hok hrd hA hw1
  have hfl := x.flags.toNat_lt
  go_enter Try.func3, Try.ntmps3
  go_wp2_with fail
  try rw [HW1.out]
  refine (lives_any _).mono ?_
  rintro e w2 ⟨rfl, hb⟩
  have HX2 := Lib.hid ((hb.block _ (row_lt HX1.out)).trans HX1.out)
  have HE2 := Lib.hid ((hb.block _ (row_lt HE1.out)).trans HE1.out)
  have HB2 := Lib.hid (HB1.out.trans (hb.mono HB1.out.size))
  have k7 : w2.cell? ⟨w.heap.size, 7, none⟩ = some (.slice A n c) := cell_of_row _ _ 7 _ _ _ HX2.out
  clear hb
  by_cases hl : 400 < n
  · go_wp2_with fail
    refine (lives_any _).mono ?_
    rintro e w3 ⟨rfl, hb3⟩
    have HB3 := Lib.hid (HB2.out.trans (hb3.mono HB2.out.size))
    clear hb3
    go_wp2
    go_ret
    exact ⟨rfl, HB3.out⟩
  go_wp2_with (first | refine wpList_load_row rfl 26 _ rfl w.heap.size rfl 26 #[.int .u16 (x.src : Int), .int .u16 (x.dst : Int), .int .u32 (x.seq : Int), .int .u32 (x.ack : Int), .int .u8 (x.flags.toNat : Int), .int .u16 (x.wnd : Int), .int .u16 (x.mss : Int), .slice A n c] (0, 0) _ HX2.out Try.underlying26 rfl (by kernel_rfl) ?_ | refine wpList_load_at rfl 28 _ rfl ⟨w.heap.size + 1, 0, none⟩ rfl ([.int .u8 (s0.toNat : Int), .int .u8 (s1.toNat : Int), .int .u8 (s2.toNat : Int), .int .u8 (s3.toNat : Int)]) _ (ends_at HE2.out).1 Try.underlying28 rfl (by kernel_rfl) ?_ | refine wpList_load_at rfl 28 _ rfl ⟨w.heap.size + 1, 4, none⟩ rfl ([.int .u8 (d0.toNat : Int), .int .u8 (d1.toNat : Int), .int .u8 (d2.toNat : Int), .int .u8 (d3.toNat : Int)]) _ (ends_at HE2.out).2 Try.underlying28 rfl (by kernel_rfl) ?_)
  clear k7
  have hbu := sbuild_any _ x s0 s1 s2 s3 d0 d1 d2 d3 0 w.heap.size w2 (HX.out.below HB2.out (Nat.le_refl _)) HB2.out.size
  have hru := fun w3 (hb : Below w.heap.size w w3) => rbuild_any _ x s0 s1 s2 s3 d0 d1 d2 d3 0 w.heap.size w3 (HX.out.below hb (Nat.le_refl _)) hb.size
  have hcase : (sgBuild [s0, s1, s2, s3] [d0, d1, d2, d3] x = (x.bytes [s0, s1, s2, s3] [d0, d1, d2, d3], 0) ∧ sgOpen [s0, s1, s2, s3] [d0, d1, d2, d3] (x.bytes [s0, s1, s2, s3] [d0, d1, d2, d3]) = (x, 0) ∧ (x.bytes [s0, s1, s2, s3] [d0, d1, d2, d3]).length ≤ 180) ∨ (∃ z : Int, z ≠ 0 ∧ sgBuild [s0, s1, s2, s3] [d0, d1, d2, d3] x = ([], z)) := by
    unfold sgBuild
    by_cases h9 : 156 < x.data.length
    · exact .inr ⟨4, by decide, if_pos h9⟩
    · rw [if_neg h9]
      by_cases hm : x.may
      · refine .inl ⟨if_pos hm, sg_open_bytes HOK.out hm rfl rfl ?_, ?_⟩
        · have := (size_le x).2; omega
        · rw [sg_length]; have := (size_le x).2; omega
      · exact .inr ⟨1, by decide, if_neg hm⟩
  obtain ⟨bs, z, hbz⟩ : ∃ bs z, sgBuild [s0, s1, s2, s3] [d0, d1, d2, d3] x = (bs, z) := ⟨_, _, rfl⟩
  rw [hbz] at hbu hcase
  simp only [hbz] at hru
  have HRU := Lib.hid hru
  have HCASE : Hid ((z = 0 ∧ sgOpen [s0, s1, s2, s3] [d0, d1, d2, d3] bs = (x, 0) ∧ bs.length ≤ 180) ∨ (z ≠ 0 ∧ bs = [])) := by
    rcases hcase with ⟨h1, h2, h3⟩ | ⟨z', h1, h2⟩
    · injection h1 with e1 e2
      subst e1 e2
      exact .inl ⟨rfl, h2, h3⟩
    · injection h2 with e1 e2
      subst e1 e2
      exact .inr ⟨h1, rfl⟩
  have hlen : bs.length ≤ 180 := by
    rcases HCASE.out with ⟨_, _, h⟩ | ⟨_, rfl⟩
    · exact h
    · simp
  obtain ⟨L, hL⟩ : ∃ L, bs.length = L := ⟨_, rfl⟩
  rw [hL] at hlen
  have HL := Lib.hid hL
  have HBU := Lib.hid hbu
  clear hbu hru hcase hL hbz
  refine HBU.out.mono ?_
  rintro e w3 ⟨A5, c5, rfl, ho, hb3⟩
  simp only at ho ⊢
  rw [HL.out]
  have HX3 := Lib.hid ((hb3.block _ (row_lt HX2.out)).trans HX2.out)
  have HE3 := Lib.hid ((hb3.block _ (row_lt HE2.out)).trans HE2.out)
  have HB3 := Lib.hid (HB2.out.trans (hb3.mono HB2.out.size))
  have HRO := Lib.hid ((Rd.own ho).wide (lo' := 0) (Nat.zero_le _) (Nat.le_refl _))
  have hcap := own_cap ho
  rw [HL.out] at hcap
  have HCAP := Lib.hid hcap
  have hcap1 := hcap.1
  have hcap2 := hcap.2
  unfold maxLen at hcap2
  clear ho hb3 hcap HBU
  go_wp2_with (first | refine wpList_load_row rfl 26 _ rfl w.heap.size rfl 26 #[.int .u16 (x.src : Int), .int .u16 (x.dst : Int), .int .u32 (x.seq : Int), .int .u32 (x.ack : Int), .int .u8 (x.flags.toNat : Int), .int .u16 (x.wnd : Int), .int .u16 (x.mss : Int), .slice A n c] (0, 0) _ HX3.out Try.underlying26 rfl (by kernel_rfl) ?_ | refine wpList_load_at rfl 28 _ rfl ⟨w.heap.size + 1, 0, none⟩ rfl ([.int .u8 (s0.toNat : Int), .int .u8 (s1.toNat : Int), .int .u8 (s2.toNat : Int), .int .u8 (s3.toNat : Int)]) _ (ends_at HE3.out).1 Try.underlying28 rfl (by kernel_rfl) ?_ | refine wpList_load_at rfl 28 _ rfl ⟨w.heap.size + 1, 4, none⟩ rfl ([.int .u8 (d0.toNat : Int), .int .u8 (d1.toNat : Int), .int .u8 (d2.toNat : Int), .int .u8 (d3.toNat : Int)]) _ (ends_at HE3.out).2 Try.underlying28 rfl (by kernel_rfl) ?_)
  refine (HRU.out w3 HB3.out).mono ?_
  rintro e w4 ⟨rfl, hb4⟩
  simp only
  unfold txt
  have HX4 := Lib.hid ((hb4.block _ (row_lt HX3.out)).trans HX3.out)
  have HE4 := Lib.hid ((hb4.block _ (row_lt HE3.out)).trans HE3.out)
  have HB4 := Lib.hid (HB3.out.trans (hb4.mono HB3.out.size))
  have HRO4 := Lib.hid ((HRO.out.below hb4 (Nat.le_refl _)).wide (lo' := 0) (Nat.le_refl _) hb4.size)
  have ht := run_text (P := Try.prog) _ 24 9 5 c5 Try.underlying24 Try.underlying5 Try.underlying9 HRO4.out
  rw [HL.out] at ht
  have qz : (z != z) = false := bneF rfl
  clear hb4
  go_wp2_with (first | refine wpList_load_row rfl 26 _ rfl w.heap.size rfl 26 #[.int .u16 (x.src : Int), .int .u16 (x.dst : Int), .int .u32 (x.seq : Int), .int .u32 (x.ack : Int), .int .u8 (x.flags.toNat : Int), .int .u16 (x.wnd : Int), .int .u16 (x.mss : Int), .slice A n c] (0, 0) _ HX4.out Try.underlying26 rfl (by kernel_rfl) ?_ | refine wpList_load_at rfl 28 _ rfl ⟨w.heap.size + 1, 0, none⟩ rfl ([.int .u8 (s0.toNat : Int), .int .u8 (s1.toNat : Int), .int .u8 (s2.toNat : Int), .int .u8 (s3.toNat : Int)]) _ (ends_at HE4.out).1 Try.underlying28 rfl (by kernel_rfl) ?_ | refine wpList_load_at rfl 28 _ rfl ⟨w.heap.size + 1, 4, none⟩ rfl ([.int .u8 (d0.toNat : Int), .int .u8 (d1.toNat : Int), .int .u8 (d2.toNat : Int), .int .u8 (d3.toNat : Int)]) _ (ends_at HE4.out).2 Try.underlying28 rfl (by kernel_rfl) ?_)
  clear ht qz
  have hop := sopen_any A5 bs c5 0 w4.heap.size s0 s1 s2 s3 d0 d1 d2 d3 w4 HRO4.out (Nat.le_refl _) (by rw [HL.out]; exact HCAP.out.1) HCAP.out.2
  rw [HL.out] at hop
  obtain ⟨y, ze, hye⟩ : ∃ y ze, sgOpen [s0, s1, s2, s3] [d0, d1, d2, d3] bs = (y, ze) := ⟨_, _, rfl⟩
  rw [hye] at hop
  refine hop.mono ?_
  clear hop
  rintro e w5 ⟨ds, rfl, hds, hb5⟩
  simp only
  have HX5 := Lib.hid ((hb5.block _ (row_lt HX4.out)).trans HX4.out)
  have HE5 := Lib.hid ((hb5.block _ (row_lt HE4.out)).trans HE4.out)
  have HB5 := Lib.hid (HB4.out.trans (hb5.mono HB4.out.size))
  have HDS := Lib.hid hds
  have HAL := Lib.hid hds.one.2
  have HIN : Hid ((Try.prog.info? 26).map (·.size) = some ds.size) := by show _ = _; rw [hds.one.1]; kernel_rfl
  have HZD : Hid ((#[.int .u16 0, .int .u16 0, .int .u32 0, .int .u32 0, .int .u8 0, .int .u16 0, .int .u16 0, .slice none 0 0] : Array Value).size = ds.size) := by show _ = _; rw [hds.one.1]; rfl
  have HB6 := Lib.hid (HB5.out.alloc HB5.out.size (.cells ds 26))
  have HX6 := Lib.hid (old_alloc HX5.out (.cells ds 26))
  have HY6 := Lib.hid (heap_alloc_new w5 (.cells ds 26))
  have HD6 := Lib.hid (HDS.out.below ((Below.refl w5.heap.size w5).alloc (Nat.le_refl _) (.cells ds 26)) (Nat.le_refl _))
  have k7 : (w5.alloc (.cells ds 26)).cell? ⟨w.heap.size, 7, none⟩ = some (.slice A n c) := cell_of_row _ _ 7 _ _ _ HX6.out
  have k4 : (w5.alloc (.cells ds 26)).cell? ⟨w.heap.size, 4, none⟩ = some (.int .u8 (x.flags.toNat : Int)) := cell_of_row _ _ 4 _ _ _ HX6.out
  have HLN0 : Hid (sgLen x = n + x.flags.toNat / 2 % 2 + x.flags.toNat % 2) := by show _ = _; unfold sgLen; rw [HN.out]
  have HND : Hid (x.data.length ≤ 1000000000) := by show _ ≤ _; rw [HN.out]; omega
  have HFN : Hid (∀ w', Below w.heap.size w w' → Calls Try.prog 15 #[.agg #[.int .u16 (x.src : Int), .int .u16 (x.dst : Int), .int .u32 (x.seq : Int), .int .u32 (x.ack : Int), .int .u8 (x.flags.toNat : Int), .int .u16 (x.wnd : Int), .int .u16 (x.mss : Int), .slice A n c]] w' fun e w'' => e = .returned (.int .i64 (sgLen x : Nat)) ∧ Below w'.heap.size w' w'') := fun w' hb => len_any _ x 0 w.heap.size w' (HX.out.below hb (Nat.le_refl _)) HND.out
  rw [HLN0.out] at HFN
  have a1 : bits .and .u8 ((x.flags.toNat : Int) / 2) 1 = ((x.flags.toNat / 2 % 2 : Nat) : Int) := by
    rw [show (x.flags.toNat : Int) / 2 = ((x.flags.toNat / 2 : Nat) : Int) from by omega]
    exact and_one _ (by omega)
  have a0 := and_one x.flags.toNat (by omega)
  obtain ⟨b, hb⟩ : ∃ b, x.flags.toNat / 2 % 2 = b := ⟨_, rfl⟩
  obtain ⟨d, hd⟩ : ∃ d, x.flags.toNat % 2 = d := ⟨_, rfl⟩
  have hb2 : b < 2 := by omega
  have hd2 : d < 2 := by omega
  rw [hb] at a1 HFN
  rw [hd] at a0 HFN
  clear hb5 hds hb hd HLN0
  have hz : z = 0 ∨ z ≠ 0 := by omega
  rcases hz with rfl | hz
  · obtain ⟨rfl, rfl⟩ : y = x ∧ ze = 0 := by
      rcases HCASE.out with ⟨_, h, _⟩ | ⟨h, _⟩
      · rw [hye] at h
        injection h with h1 h2
        exact ⟨h1, h2⟩
      · exact absurd rfl h
    have hsm := samesg_any ds _ y y w4.heap.size w5.heap.size 0 w.heap.size (w5.alloc (.cells ds 26)) HD6.out (HX.out.below HB6.out (Nat.le_refl _)) (by simp) HB6.out.size
    rw [sgEq_self] at hsm
    have HSM := Lib.hid hsm
    clear hsm hye
    go_wp2_with (first | refine wpList_store_newS rfl 26 _ _ rfl w5 #[.int .u16 0, .int .u16 0, .int .u32 0, .int .u32 0, .int .u8 0, .int .u16 0, .int .u16 0, .slice none 0 0] ds rfl rfl HIN.out HZD.out HAL.out ?_ | (refine wpList_load_rowS (by kernel_rfl) 26 _ rfl w5.heap.size rfl 26 ds (0, 0) _ HY6.out Try.underlying26 rfl HIN.out ?_) | (refine wpList_load_rowS (by kernel_rfl) 26 _ rfl w.heap.size rfl 26 #[.int .u16 (y.src : Int), .int .u16 (y.dst : Int), .int .u32 (y.seq : Int), .int .u32 (y.ack : Int), .int .u8 (y.flags.toNat : Int), .int .u16 (y.wnd : Int), .int .u16 (y.mss : Int), .slice A n c] (0, 0) _ HX6.out Try.underlying26 rfl (by kernel_rfl) ?_))
    refine HSM.out.mono ?_
    rintro e w7 ⟨rfl, hb7⟩
    have HB7 := Lib.hid (HB6.out.trans (hb7.mono HB6.out.size))
    have HX7 := Lib.hid ((hb7.block _ (row_lt HX6.out)).trans HX6.out)
    clear hb7 k7 k4
    go_wp2_with (refine wpList_load_rowS (by kernel_rfl) 26 _ rfl w.heap.size rfl 26 #[.int .u16 (y.src : Int), .int .u16 (y.dst : Int), .int .u32 (y.seq : Int), .int .u32 (y.ack : Int), .int .u8 (y.flags.toNat : Int), .int .u16 (y.wnd : Int), .int .u16 (y.mss : Int), .slice A n c] (0, 0) _ HX7.out Try.underlying26 rfl (by kernel_rfl) ?_)
    refine (HFN.out w7 HB7.out).mono ?_
    rintro e w8 ⟨rfl, hb8⟩
    have HB8 := Lib.hid (HB7.out.trans (hb8.mono HB7.out.size))
    have qn : (((n + b + d : Nat) : Int) == (n : Int) + (b : Int) + (d : Int)) = true := beqT (by omega)
    clear hb8
    go_wp2
    go_ret
    exact ⟨rfl, HB8.out⟩
  · have q0 := bneT hz
    clear hye
    go_wp2_with (refine wpList_store_newS rfl 26 _ _ rfl w5 #[.int .u16 0, .int .u16 0, .int .u32 0, .int .u32 0, .int .u8 0, .int .u16 0, .int .u16 0, .slice none 0 0] ds rfl rfl HIN.out HZD.out HAL.out ?_)
    go_ret
    exact ⟨rfl, HB6.out⟩
end Go.Proofs.Ytjgdmkmfnkaoaaa
