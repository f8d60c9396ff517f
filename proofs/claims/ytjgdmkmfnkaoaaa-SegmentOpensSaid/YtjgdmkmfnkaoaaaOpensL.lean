/-
  The law SegmentOpens: every slice of bytes, every two hosts. No condition.
-/
import Derived.Test.YtjgdmkmfnkaoaaaShapesS
import Derived.Test.YtjgdmkmfnkaoaaaRefOS
namespace Go.Proofs.Ytjgdmkmfnkaoaaa
open Go.RowKit

set_option maxRecDepth 100000 in
set_option maxHeartbeats 4000000 in
theorem opens_any (A : Option Addr) (l : List UInt8) (n c : Nat) (s0 s1 s2 s3 d0 d1 d2 d3 : UInt8) (w : World) (hr : Rd w 0 w.heap.size A (cells l)) (hn : l.length = n) (hlc : n ≤ c) (hcm : c ≤ maxLen) :
    Calls Try.prog 4 #[.slice A n c, .agg #[.int .u8 (s0.toNat : Int), .int .u8 (s1.toNat : Int), .int .u8 (s2.toNat : Int), .int .u8 (s3.toNat : Int), .int .u8 (d0.toNat : Int), .int .u8 (d1.toNat : Int), .int .u8 (d2.toNat : Int), .int .u8 (d3.toNat : Int)]] w fun e w' => e = .returned (.bool true) ∧ Below w.heap.size w w' := by
  obtain ⟨w1, hw1⟩ : ∃ w1, w.alloc (.cells #[.int .u8 (s0.toNat : Int), .int .u8 (s1.toNat : Int), .int .u8 (s2.toNat : Int), .int .u8 (s3.toNat : Int), .int .u8 (d0.toNat : Int), .int .u8 (d1.toNat : Int), .int .u8 (d2.toNat : Int), .int .u8 (d3.toNat : Int)] 30) = w1 := ⟨_, rfl⟩
  have HB1 : Hid (Below w.heap.size w w1) := by show Below _ _ _; rw [← hw1]; exact (Below.refl _ _).alloc (Nat.le_refl _) _
  have HE1 : Hid (w1.heap[w.heap.size]? = some (.cells #[.int .u8 (s0.toNat : Int), .int .u8 (s1.toNat : Int), .int .u8 (s2.toNat : Int), .int .u8 (s3.toNat : Int), .int .u8 (d0.toNat : Int), .int .u8 (d1.toNat : Int), .int .u8 (d2.toNat : Int), .int .u8 (d3.toNat : Int)] 30 (0, 0))) := by show _ = _; rw [← hw1]; exact heap_alloc_new w _
  have HR := Lib.hid hr
  have HN := Lib.hid hn
  have HW1 := Lib.hid hw1
  have HCM := Lib.hid hcm
  unfold maxLen at hcm
  clear hr hn hw1
  go_enter Try.func4, Try.ntmps4
  go_wp2_with fail
  try rw [HW1.out]
  refine (lives_any _).mono ?_
  rintro e w2 ⟨rfl, hb⟩
  have HB2 := Lib.hid (HB1.out.trans (hb.mono HB1.out.size))
  have HE2 := Lib.hid ((hb.block _ (row_lt HE1.out)).trans HE1.out)
  clear hb
  by_cases hl : 1200 < n
  · go_wp2_with fail
    refine (lives_any _).mono ?_
    rintro e w3 ⟨rfl, hb3⟩
    have HB3 := Lib.hid (HB2.out.trans (hb3.mono HB2.out.size))
    clear hb3
    go_wp2
    go_ret
    exact ⟨rfl, HB3.out⟩
  go_wp2_with (first | refine wpList_load_at rfl 28 _ rfl ⟨w.heap.size, 0, none⟩ rfl ([.int .u8 (s0.toNat : Int), .int .u8 (s1.toNat : Int), .int .u8 (s2.toNat : Int), .int .u8 (s3.toNat : Int)]) _ (ends_at HE2.out).1 Try.underlying28 rfl (by kernel_rfl) ?_ | refine wpList_load_at rfl 28 _ rfl ⟨w.heap.size, 4, none⟩ rfl ([.int .u8 (d0.toNat : Int), .int .u8 (d1.toNat : Int), .int .u8 (d2.toNat : Int), .int .u8 (d3.toNat : Int)]) _ (ends_at HE2.out).2 Try.underlying28 rfl (by kernel_rfl) ?_)
  have HR2 := Lib.hid (HR.out.below HB2.out (Nat.le_refl _))
  have hop := sopen_any A l c 0 w.heap.size s0 s1 s2 s3 d0 d1 d2 d3 w2 HR2.out HB2.out.size (by rw [HN.out]; exact hlc) HCM.out
  rw [HN.out] at hop
  refine hop.mono ?_
  clear hop
  obtain ⟨x, z, hxz⟩ : ∃ x z, sgOpen [s0, s1, s2, s3] [d0, d1, d2, d3] l = (x, z) := ⟨_, _, rfl⟩
  rw [hxz]
  rintro e w3 ⟨cs, rfl, hcs, hb3⟩
  have HB3 := Lib.hid (HB2.out.trans (hb3.mono HB2.out.size))
  have HE3 := Lib.hid ((hb3.block _ (row_lt HE2.out)).trans HE2.out)
  have HR3 := Lib.hid (HR2.out.below hb3 HB2.out.size)
  have HC3 := Lib.hid (hcs.wide (lo' := w.heap.size) HB2.out.size (Nat.le_refl _))
  obtain ⟨C, hC⟩ : ∃ C, cs = C := ⟨_, rfl⟩
  have hcs8 : cs.size = 8 := hcs.one.1
  have h1c : cs.all (·.oneCell') = true := hcs.one.2
  have HS8 := Lib.hid hcs8
  have HALL := Lib.hid h1c
  have HINF : Hid ((Try.prog.info? 26).map (·.size) = some cs.size) := by show _ = _; rw [hcs8]; kernel_rfl
  have HXZ := Lib.hid hxz
  have HB4 := Lib.hid (HB3.out.alloc HB3.out.size (.cells cs 26))
  have HE4 := Lib.hid (old_alloc HE3.out (.cells cs 26))
  have HX4 := Lib.hid (heap_alloc_new w3 (.cells cs 26))
  have HR4 := Lib.hid (HR3.out.alloc HB3.out.size (.cells cs 26))
  have HC4 := Lib.hid (HC3.out.below ((Below.refl w3.heap.size w3).alloc (Nat.le_refl _) (.cells cs 26)) (Nat.le_refl _))
  have ht := run_text (P := Try.prog) _ 24 9 5 c Try.underlying24 Try.underlying5 Try.underlying9 HR4.out
  rw [HN.out] at ht
  clear hb3 hcs hxz hC hcs8 h1c
  have hst := @wpList_store_newS Try.prog
  have HZS : Hid ((#[.int .u16 0, .int .u16 0, .int .u32 0, .int .u32 0, .int .u8 0, .int .u16 0, .int .u16 0, .slice none 0 0] : Array Value).size = cs.size) := by show _ = _; rw [HS8.out]; rfl
  clear hst
  go_wp2_with (first | refine wpList_load_at rfl 28 _ rfl ⟨w.heap.size, 0, none⟩ rfl ([.int .u8 (s0.toNat : Int), .int .u8 (s1.toNat : Int), .int .u8 (s2.toNat : Int), .int .u8 (s3.toNat : Int)]) _ (ends_at HE4.out).1 Try.underlying28 rfl (by kernel_rfl) ?_ | refine wpList_load_at rfl 28 _ rfl ⟨w.heap.size, 4, none⟩ rfl ([.int .u8 (d0.toNat : Int), .int .u8 (d1.toNat : Int), .int .u8 (d2.toNat : Int), .int .u8 (d3.toNat : Int)]) _ (ends_at HE4.out).2 Try.underlying28 rfl (by kernel_rfl) ?_ | refine wpList_store_newS rfl 26 _ _ rfl w3 #[.int .u16 0, .int .u16 0, .int .u32 0, .int .u32 0, .int .u8 0, .int .u16 0, .int .u16 0, .slice none 0 0] cs rfl rfl HINF.out HZS.out HALL.out ?_)
  have hro := ropen_any l s0 s1 s2 s3 d0 d1 d2 d3 (w3.alloc (.cells cs 26)) (by rw [HN.out]; omega)
  rw [HXZ.out] at hro
  unfold txt at hro
  refine hro.mono ?_
  clear hro ht
  rintro e w5 ⟨ds, rfl, hds, hb5⟩
  have HB5 := Lib.hid (HB4.out.trans (hb5.mono HB4.out.size))
  have HX5 := Lib.hid ((hb5.block _ (row_lt HX4.out)).trans HX4.out)
  have HC5 := Lib.hid (HC4.out.below hb5 (by simp))
  have HD5 := Lib.hid hds
  have hds8 : ds.size = 8 := hds.one.1
  have h1d : ds.all (·.oneCell') = true := hds.one.2
  have HALD := Lib.hid h1d
  have HIND : Hid ((Try.prog.info? 26).map (·.size) = some ds.size) := by show _ = _; rw [hds8]; kernel_rfl
  have HZD : Hid ((#[.int .u16 0, .int .u16 0, .int .u32 0, .int .u32 0, .int .u8 0, .int .u16 0, .int .u16 0, .slice none 0 0] : Array Value).size = ds.size) := by show _ = _; rw [hds8]; rfl
  have HB6 := Lib.hid (HB5.out.alloc HB5.out.size (.cells ds 26))
  have HX6 := Lib.hid (old_alloc HX5.out (.cells ds 26))
  have HY6 := Lib.hid (heap_alloc_new w5 (.cells ds 26))
  have HZ5 : Hid (w3.heap.size ≤ w5.heap.size) := by have := hb5.size; rw [World.size_alloc] at this; show _ ≤ _; omega
  have HC6 := Lib.hid (HC5.out.below ((Below.refl w5.heap.size w5).alloc (Nat.le_refl _) (.cells ds 26)) HZ5.out)
  have HD6 := Lib.hid (HD5.out.below ((Below.refl w5.heap.size w5).alloc (Nat.le_refl _) (.cells ds 26)) (Nat.le_refl _))
  have hsm := samesg_any cs ds x x w.heap.size w3.heap.size _ w5.heap.size (w5.alloc (.cells ds 26)) HC6.out HD6.out (by have := HZ5.out; simp; omega) (by simp)
  rw [sgEq_self] at hsm
  have HSM := Lib.hid hsm
  have qz : (z == z) = true := beqT rfl
  clear hb5 hds hds8 h1d hsm
  simp only
  go_wp2_with (first | refine wpList_store_newS rfl 26 _ _ rfl w5 #[.int .u16 0, .int .u16 0, .int .u32 0, .int .u32 0, .int .u8 0, .int .u16 0, .int .u16 0, .slice none 0 0] ds rfl rfl HIND.out HZD.out HALD.out ?_ | (refine wpList_load_rowS (by kernel_rfl) 26 _ rfl w3.heap.size rfl 26 cs (0, 0) _ HX6.out Try.underlying26 rfl HINF.out ?_) | (refine wpList_load_rowS (by kernel_rfl) 26 _ rfl w5.heap.size rfl 26 ds (0, 0) _ HY6.out Try.underlying26 rfl HIND.out ?_))
  refine HSM.out.mono ?_
  rintro e w7 ⟨rfl, hb7⟩
  have HB7 := Lib.hid (HB6.out.trans (hb7.mono HB6.out.size))
  clear hb7
  go_wp2
  go_ret
  exact ⟨rfl, HB7.out⟩
end Go.Proofs.Ytjgdmkmfnkaoaaa
