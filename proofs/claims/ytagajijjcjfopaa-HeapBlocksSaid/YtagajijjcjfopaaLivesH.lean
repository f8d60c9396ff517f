/-
  lives of layer 10: the chapter's example. No condition.
-/
import Derived.Test.YtagajijjcjfopaaMathH
namespace Go.Proofs.Ytagajijjcjfopaa
open Go.RowKit

set_option maxRecDepth 100000 in
set_option maxHeartbeats 1000000 in
theorem lives_any (w : World) : Calls Try.prog 9 #[] w fun e w' => e = .returned (.bool true) ∧ Below w.heap.size w w' := by
  go_enter Try.func9, Try.ntmps9
  go_wp2_with fail
  refine (new_any 2 w (by decide) (by decide)).mono ?_
  rintro e w1 ⟨v, rfl, ⟨y1, y2, y3, rfl, hp⟩, hb⟩
  have HO := Lib.hid hp.ones
  have HP1 := Lib.hid (hp.alloc (.cells #[y1, y2, y3] 29))
  have HX1 := Lib.hid (heap_alloc_new w1 (.cells #[y1, y2, y3] 29))
  have HB1 := Lib.hid (hb.alloc hb.size (.cells #[y1, y2, y3] 29))
  have HN : Hid (w.heap.size ≤ w1.heap.size) := hb.size
  clear hp hb
  go_upto_region 2 with (refine wpList_store_new rfl 29 _ _ rfl w1 #[.slice none 0 0, .slice none 0 0, .slice none 0 0] #[y1, y2, y3] rfl rfl (by kernel_rfl) rfl HO.out ?_)
  generalize w1.alloc (.cells #[y1, y2, y3] 29) = w2 at HP1 HX1 HB1 ⊢
  generalize w1.heap.size = N at HX1 HN ⊢
  obtain ⟨B, hB⟩ : ∃ B : List UInt8, List.replicate (64 * 2) 0 = B := ⟨_, rfl⟩
  obtain ⟨D, hD⟩ : ∃ D : List Bool, List.replicate 2 false = D := ⟨_, rfl⟩
  have hR : RightH (List.replicate (64 * 2) 0) [] (List.replicate 2 false) := RightH.new (by decide) (by decide)
  rw [hB, hD] at hR HP1
  have HR1 := Lib.hid hR
  have HBL1 : Hid (B.length = 128) := by show _ = _; rw [← hB]; simp
  clear hB hD hR
  have h1 := alloc_any (3) w2 HP1.out.shut HR1.out (by unfold I64; omega)
  rw [show allocO B.length [] 3 = ([(0, 8)], 0, 0) from by rw [HBL1.out]; decide] at h1
  have HR2 : Hid (RightH B [(0, 8)] D) := by
    have := HR1.out.alloc 3
    rwa [show allocO B.length [] 3 = ([(0, 8)], 0, 0) from by rw [HBL1.out]; decide] at this
  have HBL2 := HBL1
  have H1 := Lib.hid h1
  clear h1
  go_wp2_with (refine wpList_load_row rfl 29 _ rfl N rfl 29 #[y1, y2, y3] (0, 0) _ HX1.out Try.underlying29 rfl (by kernel_rfl) ?_)
  refine H1.out.mono ?_
  rintro e w3 ⟨v, rfl, ⟨z1, z2, z3, rfl, hp⟩, hb⟩
  have HO1 := Lib.hid hp.ones
  have hx := old_below HX1.out hb (row_lt HX1.out)
  have HXX1 := Lib.hid hx
  have HX2 := Lib.hid (setRow_heap w3 N _ #[z1, z2, z3] _ _ hx)
  have HP2 : Hid (HpV 0 B [(0, 8)] D (w3.setRow N #[z1, z2, z3]) z1 z2 z3) := (hp.wide (Nat.zero_le _)).other hx (by decide) (by decide) (by decide) (setRow_cells _ _ _)
  have HB2 : Hid (Below w.heap.size w (w3.setRow N #[z1, z2, z3])) := below_setRow (HB1.out.trans (hb.mono HB1.out.size)) HN.out _
  clear hp hb hx
  go_upto_region 3 with (refine wpList_store_row rfl 29 _ _ rfl N #[z1, z2, z3] rfl rfl 29 _ HXX1.out (by kernel_rfl) rfl HO1.out ?_)
  generalize w3.setRow N #[z1, z2, z3] = w4 at HX2 HP2 HB2 ⊢
  clear HXX1
  have h2 := alloc_any (100) w4 HP2.out.shut HR2.out (by unfold I64; omega)
  rw [show allocO B.length [(0, 8)] 100 = ([(0, 8), (8, 104)], 8, 0) from by rw [HBL2.out]; decide] at h2
  have HR3 : Hid (RightH B [(0, 8), (8, 104)] D) := by
    have := HR2.out.alloc 100
    rwa [show allocO B.length [(0, 8)] 100 = ([(0, 8), (8, 104)], 8, 0) from by rw [HBL2.out]; decide] at this
  have HBL3 := HBL2
  have H2 := Lib.hid h2
  clear h2
  go_wp2_with (refine wpList_load_row rfl 29 _ rfl N rfl 29 #[z1, z2, z3] (0, 0) _ HX2.out Try.underlying29 rfl (by kernel_rfl) ?_)
  refine H2.out.mono ?_
  rintro e w5 ⟨v, rfl, ⟨u1, u2, u3, rfl, hp⟩, hb⟩
  have HO2 := Lib.hid hp.ones
  have hx := old_below HX2.out hb (row_lt HX2.out)
  have HXX2 := Lib.hid hx
  have HX3 := Lib.hid (setRow_heap w5 N _ #[u1, u2, u3] _ _ hx)
  have HP3 : Hid (HpV 0 B [(0, 8), (8, 104)] D (w5.setRow N #[u1, u2, u3]) u1 u2 u3) := (hp.wide (Nat.zero_le _)).other hx (by decide) (by decide) (by decide) (setRow_cells _ _ _)
  have HB3 : Hid (Below w.heap.size w (w5.setRow N #[u1, u2, u3])) := below_setRow (HB2.out.trans (hb.mono HB2.out.size)) HN.out _
  clear hp hb hx
  go_upto_region 4 with (refine wpList_store_row rfl 29 _ _ rfl N #[u1, u2, u3] rfl rfl 29 _ HXX2.out (by kernel_rfl) rfl HO2.out ?_)
  generalize w5.setRow N #[u1, u2, u3] = w6 at HX3 HP3 HB3 ⊢
  clear HXX2
  have hE : freeO B [(0, 8), (8, 104)] D 0 = (putB B 0 (List.replicate 8 0), [(8, 104)], markD D 0 8, 0) := rfl
  have h3 := free_any 0 w6 HP3.out.shut HR3.out (by unfold I64; omega)
  have hR4 := HR3.out.free 0
  rw [hE] at h3 hR4
  simp only at hR4
  have HBL4' : Hid ((putB B 0 (List.replicate 8 0)).length = 128) := by show _ = _; rw [putB_length (by rw [HBL3.out]; decide)]; exact HBL3.out
  obtain ⟨B4, hB4⟩ : ∃ B4, putB B 0 (List.replicate 8 0) = B4 := ⟨_, rfl⟩
  obtain ⟨D4, hD4⟩ : ∃ D4, markD D 0 8 = D4 := ⟨_, rfl⟩
  rw [hB4, hD4] at h3 hR4
  rw [hB4] at HBL4'
  have H3 := Lib.hid h3
  have HR4 := Lib.hid hR4
  have HBL4 := HBL4'
  clear h3 hR4 hE hB4 hD4
  go_wp2_with (refine wpList_load_row rfl 29 _ rfl N rfl 29 #[u1, u2, u3] (0, 0) _ HX3.out Try.underlying29 rfl (by kernel_rfl) ?_)
  refine H3.out.mono ?_
  rintro e w7 ⟨v, rfl, ⟨t1, t2, t3, rfl, hp⟩, hb⟩
  have HO3 := Lib.hid hp.ones
  have hx := old_below HX3.out hb (row_lt HX3.out)
  have HXX3 := Lib.hid hx
  have HX4 := Lib.hid (setRow_heap w7 N _ #[t1, t2, t3] _ _ hx)
  have HP4 : Hid (HpV 0 B4 [(8, 104)] D4 (w7.setRow N #[t1, t2, t3]) t1 t2 t3) := (hp.wide (Nat.zero_le _)).other hx (by decide) (by decide) (by decide) (setRow_cells _ _ _)
  have HB4 : Hid (Below w.heap.size w (w7.setRow N #[t1, t2, t3])) := below_setRow (HB3.out.trans (hb.mono HB3.out.size)) HN.out _
  clear hp hb hx
  go_upto_region 5 with (refine wpList_store_row rfl 29 _ _ rfl N #[t1, t2, t3] rfl rfl 29 _ HXX3.out (by kernel_rfl) rfl HO3.out ?_)
  generalize w7.setRow N #[t1, t2, t3] = w8 at HX4 HP4 HB4 ⊢
  clear HXX3
  have h4 := alloc_any (9) w8 HP4.out.shut HR4.out (by unfold I64; omega)
  rw [show allocO B4.length [(8, 104)] 9 = ([(8, 104), (112, 16)], 112, 0) from by rw [HBL4.out]; decide] at h4
  have HR5 : Hid (RightH B4 [(8, 104), (112, 16)] D4) := by
    have := HR4.out.alloc 9
    rwa [show allocO B4.length [(8, 104)] 9 = ([(8, 104), (112, 16)], 112, 0) from by rw [HBL4.out]; decide] at this
  have HBL5 := HBL4
  have H4 := Lib.hid h4
  clear h4
  go_wp2_with (refine wpList_load_row rfl 29 _ rfl N rfl 29 #[t1, t2, t3] (0, 0) _ HX4.out Try.underlying29 rfl (by kernel_rfl) ?_)
  refine H4.out.mono ?_
  rintro e w9 ⟨v, rfl, ⟨s1, s2, s3, rfl, hp⟩, hb⟩
  have HO4 := Lib.hid hp.ones
  have hx := old_below HX4.out hb (row_lt HX4.out)
  have HXX4 := Lib.hid hx
  have HB5 : Hid (Below w.heap.size w (w9.alloc (.cells #[s1, s2, s3] 29))) := (HB4.out.trans (hb.mono HB4.out.size)).alloc (by have := HB4.out.size; have := hb.size; omega) _
  clear hp hb hx
  go_wp2_with (refine wpList_store_new rfl 29 _ _ rfl w9 #[.slice none 0 0, .slice none 0 0, .slice none 0 0] #[s1, s2, s3] rfl rfl (by kernel_rfl) rfl HO4.out ?_)
  go_ret
  exact ⟨rfl, HB5.out⟩

end Go.Proofs.Ytagajijjcjfopaa
