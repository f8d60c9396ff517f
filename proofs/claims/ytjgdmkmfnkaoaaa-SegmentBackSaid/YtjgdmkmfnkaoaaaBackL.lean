/-
  The law SegmentBack: every slice of bytes, every two hosts. No condition.
-/
import Derived.Test.YtjgdmkmfnkaoaaaShapesS
namespace Go.Proofs.Ytjgdmkmfnkaoaaa
open Go.RowKit

set_option maxRecDepth 100000 in
set_option maxHeartbeats 4000000 in
theorem back_any (A : Option Addr) (l : List UInt8) (n c : Nat) (s0 s1 s2 s3 d0 d1 d2 d3 : UInt8) (w : World) (hr : Rd w 0 w.heap.size A (cells l)) (hn : l.length = n) (hlc : n ≤ c) (hcm : c ≤ maxLen) :
    Calls Try.prog 7 #[.slice A n c, .agg #[.int .u8 (s0.toNat : Int), .int .u8 (s1.toNat : Int), .int .u8 (s2.toNat : Int), .int .u8 (s3.toNat : Int), .int .u8 (d0.toNat : Int), .int .u8 (d1.toNat : Int), .int .u8 (d2.toNat : Int), .int .u8 (d3.toNat : Int)]] w fun e w' => e = .returned (.bool true) ∧ Below w.heap.size w w' := by
  obtain ⟨w1, hw1⟩ : ∃ w1, w.alloc (.cells #[.int .u8 (s0.toNat : Int), .int .u8 (s1.toNat : Int), .int .u8 (s2.toNat : Int), .int .u8 (s3.toNat : Int), .int .u8 (d0.toNat : Int), .int .u8 (d1.toNat : Int), .int .u8 (d2.toNat : Int), .int .u8 (d3.toNat : Int)] 30) = w1 := ⟨_, rfl⟩
  have HB1 : Hid (Below w.heap.size w w1) := by show Below _ _ _; rw [← hw1]; exact (Below.refl _ _).alloc (Nat.le_refl _) _
  have HE1 : Hid (w1.heap[w.heap.size]? = some (.cells #[.int .u8 (s0.toNat : Int), .int .u8 (s1.toNat : Int), .int .u8 (s2.toNat : Int), .int .u8 (s3.toNat : Int), .int .u8 (d0.toNat : Int), .int .u8 (d1.toNat : Int), .int .u8 (d2.toNat : Int), .int .u8 (d3.toNat : Int)] 30 (0, 0))) := by show _ = _; rw [← hw1]; exact heap_alloc_new w _
  have HR := Lib.hid hr
  have HN := Lib.hid hn
  have HW1 := Lib.hid hw1
  have HCM := Lib.hid hcm
  unfold maxLen at hcm
  clear hr hn hw1
  go_enter Try.func7, Try.ntmps7
  go_wp2_with fail
  try rw [HW1.out]
  refine (lives_any _).mono ?_
  rintro e w2 ⟨rfl, hb⟩
  have HB2 := Lib.hid (HB1.out.trans (hb.mono HB1.out.size))
  have HE2 := Lib.hid ((hb.block _ (row_lt HE1.out)).trans HE1.out)
  clear hb
  by_cases hl : 1200 < n
  · go_wp2_with fail
    refine (lives_any _).mono ?_
    rintro e w3 ⟨rfl, hb3⟩
    have HB3 := Lib.hid (HB2.out.trans (hb3.mono HB2.out.size))
    clear hb3
    go_wp2
    go_ret
    exact ⟨rfl, HB3.out⟩
  go_wp2_with (first | refine wpList_load_at rfl 28 _ rfl ⟨w.heap.size, 0, none⟩ rfl ([.int .u8 (s0.toNat : Int), .int .u8 (s1.toNat : Int), .int .u8 (s2.toNat : Int), .int .u8 (s3.toNat : Int)]) _ (ends_at HE2.out).1 Try.underlying28 rfl (by kernel_rfl) ?_ | refine wpList_load_at rfl 28 _ rfl ⟨w.heap.size, 4, none⟩ rfl ([.int .u8 (d0.toNat : Int), .int .u8 (d1.toNat : Int), .int .u8 (d2.toNat : Int), .int .u8 (d3.toNat : Int)]) _ (ends_at HE2.out).2 Try.underlying28 rfl (by kernel_rfl) ?_)
  have HR2 := Lib.hid (HR.out.below HB2.out (Nat.le_refl _))
  have hop := sopen_any A l c 0 w.heap.size s0 s1 s2 s3 d0 d1 d2 d3 w2 HR2.out HB2.out.size (by rw [HN.out]; exact hlc) HCM.out
  rw [HN.out] at hop
  refine hop.mono ?_
  clear hop
  obtain ⟨x, z, hxz⟩ : ∃ x z, sgOpen [s0, s1, s2, s3] [d0, d1, d2, d3] l = (x, z) := ⟨_, _, rfl⟩
  rw [hxz]
  rintro e w3 ⟨cs, rfl, hcs, hb3⟩
  have HC3 := Lib.hid (hcs.wide (lo' := w.heap.size) HB2.out.size (Nat.le_refl _))
  obtain ⟨A2, c2, hce, hok, hrd, hlc2, hcm2, hA2⟩ := hcs
  simp only at hce hok hrd hlc2 HC3
  subst hce
  obtain ⟨m, hm⟩ : ∃ m, x.data.length = m := ⟨_, rfl⟩
  rw [hm] at hlc2 HC3 ⊢
  have HM := Lib.hid hm
  have HB3 := Lib.hid (HB2.out.trans (hb3.mono HB2.out.size))
  have HE3 := Lib.hid ((hb3.block _ (row_lt HE2.out)).trans HE2.out)
  have HB4 := Lib.hid (HB3.out.alloc HB3.out.size (.cells #[.int .u16 (x.src : Int), .int .u16 (x.dst : Int), .int .u32 (x.seq : Int), .int .u32 (x.ack : Int), .int .u8 (x.flags.toNat : Int), .int .u16 (x.wnd : Int), .int .u16 (x.mss : Int), .slice A2 m c2] 26))
  have HE4 := Lib.hid (old_alloc HE3.out (.cells #[.int .u16 (x.src : Int), .int .u16 (x.dst : Int), .int .u32 (x.seq : Int), .int .u32 (x.ack : Int), .int .u8 (x.flags.toNat : Int), .int .u16 (x.wnd : Int), .int .u16 (x.mss : Int), .slice A2 m c2] 26))
  have HX4 := Lib.hid (heap_alloc_new w3 (.cells #[.int .u16 (x.src : Int), .int .u16 (x.dst : Int), .int .u32 (x.seq : Int), .int .u32 (x.ack : Int), .int .u8 (x.flags.toNat : Int), .int .u16 (x.wnd : Int), .int .u16 (x.mss : Int), .slice A2 m c2] 26))
  have HC4 := Lib.hid (HC3.out.below ((Below.refl w3.heap.size w3).alloc (Nat.le_refl _) (.cells #[.int .u16 (x.src : Int), .int .u16 (x.dst : Int), .int .u32 (x.seq : Int), .int .u32 (x.ack : Int), .int .u8 (x.flags.toNat : Int), .int .u16 (x.wnd : Int), .int .u16 (x.mss : Int), .slice A2 m c2] 26)) (Nat.le_refl _))
  have HZ34 : Hid (w3.heap.size < (w3.alloc (.cells #[.int .u16 (x.src : Int), .int .u16 (x.dst : Int), .int .u32 (x.seq : Int), .int .u32 (x.ack : Int), .int .u8 (x.flags.toNat : Int), .int .u16 (x.wnd : Int), .int .u16 (x.mss : Int), .slice A2 m c2] 26)).heap.size) := by show _ < _; simp
  have HXZ := Lib.hid hxz
  unfold maxLen at hcm2
  clear hb3 hxz hrd hA2 hm hok
  simp only
  by_cases hz : z = 0
  rotate_left
  · have q0 := bneT hz
    have hx0 : x = Sg.zero := by
      have := sg_open_none (s := [s0, s1, s2, s3]) (d := [d0, d1, d2, d3]) (l := l) (by rw [HXZ.out]; exact hz)
      rw [HXZ.out] at this
      exact this
    have hsm := samesg_any #[.int .u16 (x.src : Int), .int .u16 (x.dst : Int), .int .u32 (x.seq : Int), .int .u32 (x.ack : Int), .int .u8 (x.flags.toNat : Int), .int .u16 (x.wnd : Int), .int .u16 (x.mss : Int), .slice A2 m c2] #[.int .u16 0, .int .u16 0, .int .u32 0, .int .u32 0, .int .u8 0, .int .u16 0, .int .u16 0, .slice none 0 0] x Sg.zero w.heap.size w3.heap.size 0 0 (w3.alloc (.cells #[.int .u16 (x.src : Int), .int .u16 (x.dst : Int), .int .u32 (x.seq : Int), .int .u32 (x.ack : Int), .int .u8 (x.flags.toNat : Int), .int .u16 (x.wnd : Int), .int .u16 (x.mss : Int), .slice A2 m c2] 26)) HC4.out (zero_sg _ _ _) (Nat.le_of_lt HZ34.out) (Nat.zero_le _)
    rw [hx0, sgEq_self, ← hx0] at hsm
    have HSM := Lib.hid hsm
    clear hsm hx0
    go_wp2_with (first | refine wpList_store_newS rfl 26 _ _ rfl w3 #[.int .u16 0, .int .u16 0, .int .u32 0, .int .u32 0, .int .u8 0, .int .u16 0, .int .u16 0, .slice none 0 0] #[.int .u16 (x.src : Int), .int .u16 (x.dst : Int), .int .u32 (x.seq : Int), .int .u32 (x.ack : Int), .int .u8 (x.flags.toNat : Int), .int .u16 (x.wnd : Int), .int .u16 (x.mss : Int), .slice A2 m c2] rfl rfl (by kernel_rfl) rfl (by kernel_rfl) ?_ | refine wpList_load_row rfl 26 _ rfl w3.heap.size rfl 26 #[.int .u16 (x.src : Int), .int .u16 (x.dst : Int), .int .u32 (x.seq : Int), .int .u32 (x.ack : Int), .int .u8 (x.flags.toNat : Int), .int .u16 (x.wnd : Int), .int .u16 (x.mss : Int), .slice A2 m c2] (0, 0) _ HX4.out Try.underlying26 rfl (by kernel_rfl) ?_)
    refine HSM.out.mono ?_
    rintro e w5 ⟨rfl, hb5⟩
    have HB5 := Lib.hid (HB4.out.trans (hb5.mono HB4.out.size))
    clear hb5
    go_wp2
    go_ret
    exact ⟨rfl, HB5.out⟩
  subst hz
  have hso := sg_open_some HXZ.out
  rw [HN.out] at hso
  obtain ⟨hokx, hmay, hsz, hn1000⟩ := hso
  have HOKX := Lib.hid hokx
  have HMAY := Lib.hid hmay
  clear hokx hmay
  go_wp2_with (first | refine wpList_store_newS rfl 26 _ _ rfl w3 #[.int .u16 0, .int .u16 0, .int .u32 0, .int .u32 0, .int .u8 0, .int .u16 0, .int .u16 0, .slice none 0 0] #[.int .u16 (x.src : Int), .int .u16 (x.dst : Int), .int .u32 (x.seq : Int), .int .u32 (x.ack : Int), .int .u8 (x.flags.toNat : Int), .int .u16 (x.wnd : Int), .int .u16 (x.mss : Int), .slice A2 m c2] rfl rfl (by kernel_rfl) rfl (by kernel_rfl) ?_ | refine wpList_load_row rfl 26 _ rfl w3.heap.size rfl 26 #[.int .u16 (x.src : Int), .int .u16 (x.dst : Int), .int .u32 (x.seq : Int), .int .u32 (x.ack : Int), .int .u8 (x.flags.toNat : Int), .int .u16 (x.wnd : Int), .int .u16 (x.mss : Int), .slice A2 m c2] (0, 0) _ HX4.out Try.underlying26 rfl (by kernel_rfl) ?_ | refine wpList_load_at rfl 28 _ rfl ⟨w.heap.size, 0, none⟩ rfl ([.int .u8 (s0.toNat : Int), .int .u8 (s1.toNat : Int), .int .u8 (s2.toNat : Int), .int .u8 (s3.toNat : Int)]) _ (ends_at HE4.out).1 Try.underlying28 rfl (by kernel_rfl) ?_ | refine wpList_load_at rfl 28 _ rfl ⟨w.heap.size, 4, none⟩ rfl ([.int .u8 (d0.toNat : Int), .int .u8 (d1.toNat : Int), .int .u8 (d2.toNat : Int), .int .u8 (d3.toNat : Int)]) _ (ends_at HE4.out).2 Try.underlying28 rfl (by kernel_rfl) ?_)
  refine (sbuild_any _ x s0 s1 s2 s3 d0 d1 d2 d3 w.heap.size w3.heap.size (w3.alloc (.cells #[.int .u16 (x.src : Int), .int .u16 (x.dst : Int), .int .u32 (x.seq : Int), .int .u32 (x.ack : Int), .int .u8 (x.flags.toNat : Int), .int .u16 (x.wnd : Int), .int .u16 (x.mss : Int), .slice A2 m c2] 26)) HC4.out (Nat.le_of_lt HZ34.out)).mono ?_
  generalize w3.alloc (.cells #[.int .u16 (x.src : Int), .int .u16 (x.dst : Int), .int .u32 (x.seq : Int), .int .u32 (x.ack : Int), .int .u8 (x.flags.toNat : Int), .int .u16 (x.wnd : Int), .int .u16 (x.mss : Int), .slice A2 m c2] 26) = w4 at HB4 HE4 HX4 HC4 HZ34 ⊢
  by_cases h9 : 156 < m
  · have hbz : sgBuild [s0, s1, s2, s3] [d0, d1, d2, d3] x = ([], 4) := by unfold sgBuild; rw [if_pos (by rw [HM.out]; exact h9)]
    rw [hbz]
    rintro e w5 ⟨A5, c5, rfl, ho, hb5⟩
    have HB5 := Lib.hid (HB4.out.trans (hb5.mono HB4.out.size))
    have HX5 := Lib.hid ((hb5.block _ HZ34.out).trans HX4.out)
    have k7 : w5.cell? ⟨w3.heap.size, 7, none⟩ = some (.slice A2 m c2) := cell_of_row _ _ 7 _ _ _ HX5.out
    clear ho hb5 hbz
    have qd : decide ((156 : Int) < (m : Int)) = true := decide_eq_true (by omega)
    simp only
    go_wp2
    go_ret
    exact ⟨by first | rfl | (show Ending.returned (.bool (decide ((156 : Int) < (m : Int)))) = _; rw [qd]), HB5.out⟩
  have hbz : sgBuild [s0, s1, s2, s3] [d0, d1, d2, d3] x = (x.bytes [s0, s1, s2, s3] [d0, d1, d2, d3], 0) := by unfold sgBuild; rw [if_neg (by rw [HM.out]; exact h9), if_pos HMAY.out]
  have hopx := sg_open_bytes (s := [s0, s1, s2, s3]) (d := [d0, d1, d2, d3]) HOKX.out HMAY.out rfl rfl (by omega)
  have hlx := sg_length [s0, s1, s2, s3] [d0, d1, d2, d3] x
  rw [hbz]
  generalize x.bytes [s0, s1, s2, s3] [d0, d1, d2, d3] = bs at hopx hlx ⊢
  have HLX := Lib.hid hlx
  have HOPX := Lib.hid hopx
  obtain ⟨L, hL⟩ : ∃ L, x.size = L := ⟨_, rfl⟩
  rw [hL] at hsz HLX
  rintro e w5 ⟨A5, c5, rfl, ho, hb5⟩
  simp only at ho ⊢
  rw [HLX.out]
  have HB5 := Lib.hid (HB4.out.trans (hb5.mono HB4.out.size))
  have HX5 := Lib.hid ((hb5.block _ HZ34.out).trans HX4.out)
  have HE5 := Lib.hid ((hb5.block _ (row_lt HE4.out)).trans HE4.out)
  have HZ5 : Hid (w3.heap.size < w5.heap.size) := row_lt HX5.out
  have HC5 := Lib.hid (HC4.out.below hb5 (Nat.le_of_lt HZ34.out))
  have HRO := Lib.hid ((Rd.own ho).wide (lo' := 0) (Nat.zero_le _) (Nat.le_refl _))
  have hcap := own_cap ho
  have HCAP := Lib.hid hcap
  clear ho hb5 hcap hbz hopx hlx hL
  go_wp2_with (first | refine wpList_load_at rfl 28 _ rfl ⟨w.heap.size, 0, none⟩ rfl ([.int .u8 (s0.toNat : Int), .int .u8 (s1.toNat : Int), .int .u8 (s2.toNat : Int), .int .u8 (s3.toNat : Int)]) _ (ends_at HE5.out).1 Try.underlying28 rfl (by kernel_rfl) ?_ | refine wpList_load_at rfl 28 _ rfl ⟨w.heap.size, 4, none⟩ rfl ([.int .u8 (d0.toNat : Int), .int .u8 (d1.toNat : Int), .int .u8 (d2.toNat : Int), .int .u8 (d3.toNat : Int)]) _ (ends_at HE5.out).2 Try.underlying28 rfl (by kernel_rfl) ?_)
  have hop := sopen_any A5 bs c5 0 w5.heap.size s0 s1 s2 s3 d0 d1 d2 d3 w5 HRO.out (Nat.le_refl _) HCAP.out.1 HCAP.out.2
  rw [HOPX.out, HLX.out] at hop
  refine hop.mono ?_
  clear hop
  rintro e w6 ⟨ds, rfl, hds, hb6⟩
  simp only
  have HB6 := Lib.hid (HB5.out.trans (hb6.mono HB5.out.size))
  have HX6 := Lib.hid ((hb6.block _ (row_lt HX5.out)).trans HX5.out)
  have HC6 := Lib.hid (HC5.out.below hb6 (Nat.le_of_lt HZ5.out))
  have HDS := Lib.hid hds
  have HAL := Lib.hid hds.one.2
  have HIN : Hid ((Try.prog.info? 26).map (·.size) = some ds.size) := by show _ = _; rw [hds.one.1]; kernel_rfl
  have HZD : Hid ((#[.int .u16 0, .int .u16 0, .int .u32 0, .int .u32 0, .int .u8 0, .int .u16 0, .int .u16 0, .slice none 0 0] : Array Value).size = ds.size) := by show _ = _; rw [hds.one.1]; rfl
  have HZ6 : Hid (w3.heap.size < w6.heap.size) := row_lt HX6.out
  have HB7 := Lib.hid (HB6.out.alloc HB6.out.size (.cells ds 26))
  have HX7 := Lib.hid (old_alloc HX6.out (.cells ds 26))
  have HY7 := Lib.hid (heap_alloc_new w6 (.cells ds 26))
  have HC7 := Lib.hid (HC6.out.below ((Below.refl w6.heap.size w6).alloc (Nat.le_refl _) (.cells ds 26)) (Nat.le_of_lt HZ6.out))
  have HD7 := Lib.hid (HDS.out.below ((Below.refl w6.heap.size w6).alloc (Nat.le_refl _) (.cells ds 26)) (Nat.le_refl _))
  have hsm := samesg_any _ ds x x w.heap.size w3.heap.size w5.heap.size w6.heap.size (w6.alloc (.cells ds 26)) HC7.out HD7.out (by have := HZ6.out; simp; omega) (by simp)
  rw [sgEq_self] at hsm
  have HSM := Lib.hid hsm
  clear hsm hb6 hds
  go_wp2_with (first | refine wpList_store_newS rfl 26 _ _ rfl w6 #[.int .u16 0, .int .u16 0, .int .u32 0, .int .u32 0, .int .u8 0, .int .u16 0, .int .u16 0, .slice none 0 0] ds rfl rfl HIN.out HZD.out HAL.out ?_ | (refine wpList_load_rowS (by kernel_rfl) 26 _ rfl w6.heap.size rfl 26 ds (0, 0) _ HY7.out Try.underlying26 rfl HIN.out ?_) | (refine wpList_load_rowS (by kernel_rfl) 26 _ rfl w3.heap.size rfl 26 #[.int .u16 (x.src : Int), .int .u16 (x.dst : Int), .int .u32 (x.seq : Int), .int .u32 (x.ack : Int), .int .u8 (x.flags.toNat : Int), .int .u16 (x.wnd : Int), .int .u16 (x.mss : Int), .slice A2 m c2] (0, 0) _ HX7.out Try.underlying26 rfl (by kernel_rfl) ?_))
  refine HSM.out.mono ?_
  rintro e w8 ⟨rfl, hb8⟩
  have HB8 := Lib.hid (HB7.out.trans (hb8.mono HB7.out.size))
  clear hb8
  go_wp2
  go_ret
  exact ⟨rfl, HB8.out⟩
end Go.Proofs.Ytjgdmkmfnkaoaaa
