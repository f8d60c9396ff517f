/-
  The law SegmentLens: every segment. No condition.
-/
import Derived.Test.YtjgdmkmfnkaoaaaShapesS
import Derived.Test.YtjgdmkmfnkaoaaaRelyQ
namespace Go.Proofs.Ytjgdmkmfnkaoaaa
open Go.RowKit

theorem and_3 (x : Nat) (h : x < 256) : bits .and .u8 (x : Int) 3 = ((x % 4 : Nat) : Int) := by
  rw [show (3 : Int) = ((3 : Nat) : Int) from rfl, u8_and_nat x 3 h (by omega), show (3 : Nat) = 2 ^ 2 - 1 from rfl, Nat.and_two_pow_sub_one_eq_mod]
theorem or_3 (x : Nat) (h : x < 256) : bits .or .u8 (x : Int) 3 = ((x / 4 * 4 + 3 : Nat) : Int) := by
  rw [show (3 : Int) = ((3 : Nat) : Int) from rfl, u8_or_nat x 3 h (by omega)]
  congr 1
  revert h
  revert x
  decide +kernel
set_option maxRecDepth 100000 in
set_option maxHeartbeats 4000000 in
theorem lens_any (cs : Array Value) (x : Sg) (w : World) (hx : SgC w 0 w.heap.size cs x) :
    Calls Try.prog 8 #[.agg cs] w fun e w' => e = .returned (.bool true) ∧ Below w.heap.size w w' := by
  have hx2 := hx
  obtain ⟨A, c, rfl, hok, hrd, hlc, hcm, hA⟩ := hx2
  obtain ⟨n, hn⟩ : ∃ n, x.data.length = n := ⟨_, rfl⟩
  rw [hn] at hx hlc ⊢
  have HX := Lib.hid hx
  have HN := Lib.hid hn
  have HOK := Lib.hid hok
  have HRD := Lib.hid hrd
  have HAN := Lib.hid hA
  have HCM := Lib.hid hcm
  have HLC := Lib.hid hlc
  have HB1 := Lib.hid ((Below.refl w.heap.size w).alloc (Nat.le_refl _) (.cells #[.int .u16 (x.src : Int), .int .u16 (x.dst : Int), .int .u32 (x.seq : Int), .int .u32 (x.ack : Int), .int .u8 (x.flags.toNat : Int), .int .u16 (x.wnd : Int), .int .u16 (x.mss : Int), .slice A n c] 26))
  have HX1 := Lib.hid (heap_alloc_new w (.cells #[.int .u16 (x.src : Int), .int .u16 (x.dst : Int), .int .u32 (x.seq : Int), .int .u32 (x.ack : Int), .int .u8 (x.flags.toNat : Int), .int .u16 (x.wnd : Int), .int .u16 (x.mss : Int), .slice A n c] 26))
  have hfl := x.flags.toNat_lt
  unfold maxLen at hcm
  clear hx hn hok hrd hA
  go_enter Try.func8, Try.ntmps8
  go_wp2_with fail
  refine (lives_any _).mono ?_
  rintro e w2 ⟨rfl, hb⟩
  have HB2 := Lib.hid (HB1.out.trans (hb.mono HB1.out.size))
  have HX2 := Lib.hid ((hb.block _ (row_lt HX1.out)).trans HX1.out)
  have k7 : w2.cell? ⟨w.heap.size, 7, none⟩ = some (.slice A n c) := cell_of_row _ _ 7 _ _ _ HX2.out
  clear hb
  by_cases hl : 400 < n
  · go_wp2_with fail
    refine (lives_any _).mono ?_
    rintro e w3 ⟨rfl, hb3⟩
    have HB3 := Lib.hid (HB2.out.trans (hb3.mono HB2.out.size))
    clear hb3
    go_wp2
    go_ret
    exact ⟨rfl, HB3.out⟩
  have HND : Hid (x.data.length ≤ 1000000000) := by show _ ≤ _; rw [HN.out]; omega
  go_wp2_with (refine wpList_load_row rfl 26 _ rfl w.heap.size rfl 26 #[.int .u16 (x.src : Int), .int .u16 (x.dst : Int), .int .u32 (x.seq : Int), .int .u32 (x.ack : Int), .int .u8 (x.flags.toNat : Int), .int .u16 (x.wnd : Int), .int .u16 (x.mss : Int), .slice A n c] (0, 0) _ HX2.out Try.underlying26 rfl (by kernel_rfl) ?_)
  clear k7
  refine (len_any _ x 0 w.heap.size w2 (HX.out.below HB2.out (Nat.le_refl _)) HND.out).mono ?_
  have hr0 : sgLen x = n + x.flags.toNat / 2 % 2 + x.flags.toNat % 2 := by unfold sgLen; rw [HN.out]
  obtain ⟨r, hr⟩ : ∃ r, sgLen x = r := ⟨_, rfl⟩
  rw [hr] at hr0 ⊢
  have hr1 : n ≤ r ∧ r ≤ n + 2 := by omega
  rintro e w3 ⟨rfl, hb⟩
  have HB3 := Lib.hid (HB2.out.trans (hb.mono HB2.out.size))
  have HX3 := Lib.hid ((hb.block _ (row_lt HX2.out)).trans HX2.out)
  clear hb
  have e4 := and_3 x.flags.toNat (by omega)
  have e5 := or_3 x.flags.toNat (by omega)
  obtain ⟨fa, hfa⟩ : ∃ fa : UInt8, UInt8.ofNat (x.flags.toNat % 4) = fa := ⟨_, rfl⟩
  obtain ⟨fo, hfo⟩ : ∃ fo : UInt8, UInt8.ofNat (x.flags.toNat / 4 * 4 + 3) = fo := ⟨_, rfl⟩
  have hfa2 : fa.toNat = x.flags.toNat % 4 := by rw [← hfa, u8_of]; omega
  have hfo2 : fo.toNat = x.flags.toNat / 4 * 4 + 3 := by rw [← hfo, u8_of]; omega
  rw [← hfa2] at e4
  rw [← hfo2] at e5
  have HTL : Hid (sgLen ⟨0, 0, 0, 0, fa, 0, 0, x.data⟩ = r) := by show x.data.length + fa.toNat / 2 % 2 + fa.toNat % 2 = r; rw [HN.out, hfa2, hr0]; omega
  have HUL : Hid (sgLen ⟨x.src, x.dst, x.seq, x.ack, fo, x.wnd, x.mss, x.data⟩ = n + 2) := by show x.data.length + fo.toNat / 2 % 2 + fo.toNat % 2 = n + 2; rw [HN.out, hfo2]; omega
  have hgt : (r : Int) ≤ (n : Int) + 2 := by omega
  have hge : (n : Int) ≤ (r : Int) := by omega
  have dgt : decide ((r : Int) ≤ (n : Int) + 2) = true := decide_eq_true hgt
  have dge : decide ((n : Int) ≤ (r : Int)) = true := decide_eq_true hge
  obtain ⟨w4, hw4⟩ : ∃ w4, w3.alloc (.cells #[.int .u16 0, .int .u16 0, .int .u32 0, .int .u32 0, .int .u8 (fa.toNat : Int), .int .u16 0, .int .u16 0, .slice A n c] 26) = w4 := ⟨_, rfl⟩
  have HB4 : Hid (Below w.heap.size w w4) := by show Below _ _ _; rw [← hw4]; exact HB3.out.alloc HB3.out.size _
  have HX4 : Hid (w4.heap[w.heap.size]? = some (.cells #[.int .u16 (x.src : Int), .int .u16 (x.dst : Int), .int .u32 (x.seq : Int), .int .u32 (x.ack : Int), .int .u8 (x.flags.toNat : Int), .int .u16 (x.wnd : Int), .int .u16 (x.mss : Int), .slice A n c] 26 (0, 0))) := by show _ = _; rw [← hw4]; exact old_alloc HX3.out _
  have HT4 : Hid (w4.heap[w3.heap.size]? = some (.cells #[.int .u16 0, .int .u16 0, .int .u32 0, .int .u32 0, .int .u8 (fa.toNat : Int), .int .u16 0, .int .u16 0, .slice A n c] 26 (0, 0))) := by show _ = _; rw [← hw4]; exact heap_alloc_new w3 _
  have k7 : w3.cell? ⟨w.heap.size, 7, none⟩ = some (.slice A n c) := cell_of_row _ _ 7 _ _ _ HX3.out
  have k4 : w3.cell? ⟨w.heap.size, 4, none⟩ = some (.int .u8 (x.flags.toNat : Int)) := cell_of_row _ _ 4 _ _ _ HX3.out
  clear hr hr0 hr1 hfa hfo hfa2 hfo2
  go_upto_region 5 with (refine wpList_store_newS rfl 26 _ _ rfl w3 #[.int .u16 0, .int .u16 0, .int .u32 0, .int .u32 0, .int .u8 0, .int .u16 0, .int .u16 0, .slice none 0 0] #[.int .u16 0, .int .u16 0, .int .u32 0, .int .u32 0, .int .u8 (fa.toNat : Int), .int .u16 0, .int .u16 0, .slice A n c] rfl rfl (by kernel_rfl) rfl (by kernel_rfl) ?_)
  try simp only [Act.put]
  try rw [hw4]
  clear hw4 k7 k4
  obtain ⟨w5, hw5⟩ : ∃ w5, w4.alloc (.cells #[.int .u16 (x.src : Int), .int .u16 (x.dst : Int), .int .u32 (x.seq : Int), .int .u32 (x.ack : Int), .int .u8 (x.flags.toNat : Int), .int .u16 (x.wnd : Int), .int .u16 (x.mss : Int), .slice A n c] 26) = w5 := ⟨_, rfl⟩
  have HB5 : Hid (Below w.heap.size w w5) := by show Below _ _ _; rw [← hw5]; exact HB4.out.alloc HB4.out.size _
  have HX5 : Hid (w5.heap[w.heap.size]? = some (.cells #[.int .u16 (x.src : Int), .int .u16 (x.dst : Int), .int .u32 (x.seq : Int), .int .u32 (x.ack : Int), .int .u8 (x.flags.toNat : Int), .int .u16 (x.wnd : Int), .int .u16 (x.mss : Int), .slice A n c] 26 (0, 0))) := by show _ = _; rw [← hw5]; exact old_alloc HX4.out _
  have HT5 : Hid (w5.heap[w3.heap.size]? = some (.cells #[.int .u16 0, .int .u16 0, .int .u32 0, .int .u32 0, .int .u8 (fa.toNat : Int), .int .u16 0, .int .u16 0, .slice A n c] 26 (0, 0))) := by show _ = _; rw [← hw5]; exact old_alloc HT4.out _
  have HU5 : Hid (w5.heap[w4.heap.size]? = some (.cells #[.int .u16 (x.src : Int), .int .u16 (x.dst : Int), .int .u32 (x.seq : Int), .int .u32 (x.ack : Int), .int .u8 (x.flags.toNat : Int), .int .u16 (x.wnd : Int), .int .u16 (x.mss : Int), .slice A n c] 26 (0, 0))) := by show _ = _; rw [← hw5]; exact heap_alloc_new w4 _
  go_upto_region 6 with (first | refine wpList_load_row rfl 26 _ rfl w.heap.size rfl 26 #[.int .u16 (x.src : Int), .int .u16 (x.dst : Int), .int .u32 (x.seq : Int), .int .u32 (x.ack : Int), .int .u8 (x.flags.toNat : Int), .int .u16 (x.wnd : Int), .int .u16 (x.mss : Int), .slice A n c] (0, 0) _ HX4.out Try.underlying26 rfl (by kernel_rfl) ?_ | refine wpList_store_newS rfl 26 _ _ rfl w4 #[.int .u16 0, .int .u16 0, .int .u32 0, .int .u32 0, .int .u8 0, .int .u16 0, .int .u16 0, .slice none 0 0] #[.int .u16 (x.src : Int), .int .u16 (x.dst : Int), .int .u32 (x.seq : Int), .int .u32 (x.ack : Int), .int .u8 (x.flags.toNat : Int), .int .u16 (x.wnd : Int), .int .u16 (x.mss : Int), .slice A n c] rfl rfl (by kernel_rfl) rfl (by kernel_rfl) ?_)
  try simp only [Act.put]
  try rw [hw5]
  clear hw5
  have k4 : w5.cell? ⟨w4.heap.size, 4, none⟩ = some (.int .u8 (x.flags.toNat : Int)) := cell_of_row _ _ 4 _ _ _ HU5.out
  have hf4 := frozen_of_row _ _ 4 _ _ HU5.out
  have h34 : Hid (w3.heap.size < w4.heap.size) := row_lt HT4.out
  have HLW : Hid (w.heap.size < w4.heap.size) := row_lt HX4.out
  obtain ⟨w6, hw6⟩ : ∃ w6, w5.setCell ⟨w4.heap.size, 4, none⟩ (.int .u8 (fo.toNat : Int)) = w6 := ⟨_, rfl⟩
  have HB6 : Hid (Below w.heap.size w w6) := by show Below _ _ _; rw [← hw6]; exact HB5.out.setCell HB4.out.size _
  have HX6 : Hid (w6.heap[w.heap.size]? = some (.cells #[.int .u16 (x.src : Int), .int .u16 (x.dst : Int), .int .u32 (x.seq : Int), .int .u32 (x.ack : Int), .int .u8 (x.flags.toNat : Int), .int .u16 (x.wnd : Int), .int .u16 (x.mss : Int), .slice A n c] 26 (0, 0))) := by show _ = _; rw [← hw6]; exact (heap_setCell_other _ _ _ _ (by have := HLW.out; simp only; omega)).trans HX5.out
  have HT6 : Hid (w6.heap[w3.heap.size]? = some (.cells #[.int .u16 0, .int .u16 0, .int .u32 0, .int .u32 0, .int .u8 (fa.toNat : Int), .int .u16 0, .int .u16 0, .slice A n c] 26 (0, 0))) := by show _ = _; rw [← hw6]; exact (heap_setCell_other _ _ _ _ (by have := h34.out; simp only; omega)).trans HT5.out
  have HU6 : Hid (w6.heap[w4.heap.size]? = some (.cells #[.int .u16 (x.src : Int), .int .u16 (x.dst : Int), .int .u32 (x.seq : Int), .int .u32 (x.ack : Int), .int .u8 (fo.toNat : Int), .int .u16 (x.wnd : Int), .int .u16 (x.mss : Int), .slice A n c] 26 (0, 0))) := by show _ = _; rw [← hw6]; exact heap_setCell_same w5 w4.heap.size 4 #[.int .u16 (x.src : Int), .int .u16 (x.dst : Int), .int .u32 (x.seq : Int), .int .u32 (x.ack : Int), .int .u8 (x.flags.toNat : Int), .int .u16 (x.wnd : Int), .int .u16 (x.mss : Int), .slice A n c] 26 (.int .u8 (fo.toNat : Int)) HU5.out
  go_upto_region 7 with (fail)
  clear k4 hf4 hw6
  have hwr : IntKind.i64.wrap ((n : Int) + 2) = (n : Int) + 2 := IntWalk.i64_in _ ⟨by omega, by omega⟩
  have HT : Hid (∀ w', Gro (fun _ => False) w6 w' → w'.heap[w3.heap.size]? = some (.cells #[.int .u16 0, .int .u16 0, .int .u32 0, .int .u32 0, .int .u8 (fa.toNat : Int), .int .u16 0, .int .u16 0, .slice A n c] 26 (0, 0))) := fun w' hg => (hg.block _ (row_lt HT6.out) (fun h => h)).trans HT6.out
  have HU : Hid (∀ w', Gro (fun _ => False) w6 w' → w'.heap[w4.heap.size]? = some (.cells #[.int .u16 (x.src : Int), .int .u16 (x.dst : Int), .int .u32 (x.seq : Int), .int .u32 (x.ack : Int), .int .u8 (fo.toNat : Int), .int .u16 (x.wnd : Int), .int .u16 (x.mss : Int), .slice A n c] 26 (0, 0))) := fun w' hg => (hg.block _ (row_lt HU6.out) (fun h => h)).trans HU6.out
  have K7 : Hid (∀ w', Gro (fun _ => False) w6 w' → w'.cell? ⟨w.heap.size, 7, none⟩ = some (.slice A n c)) := fun w' hg => cell_of_row _ _ 7 _ _ _ ((hg.block _ (row_lt HX6.out) (fun h => h)).trans HX6.out)
  have HDW : Hid (∀ w', Gro (fun _ => False) w6 w' → Rd w' 0 w.heap.size A (cells x.data)) := fun w' hg => HRD.out.below (HB6.out.trans (hg.belowF.mono HB6.out.size)) (Nat.le_refl _)
  have HLT : Hid (∀ w', Gro (fun _ => False) w6 w' → Calls Try.prog 15 #[.agg #[.int .u16 0, .int .u16 0, .int .u32 0, .int .u32 0, .int .u8 (fa.toNat : Int), .int .u16 0, .int .u16 0, .slice A n c]] w' fun e w'' => e = .returned (.int .i64 (r : Int)) ∧ Below w'.heap.size w' w'') := fun w' hg => by
    have h := len_any #[.int .u16 0, .int .u16 0, .int .u32 0, .int .u32 0, .int .u8 (fa.toNat : Int), .int .u16 0, .int .u16 0, .slice A n c] ⟨0, 0, 0, 0, fa, 0, 0, x.data⟩ 0 w.heap.size w' ⟨A, c, by show _ = #[_, _, _, _, _, _, _, Value.slice A x.data.length c]; rw [HN.out]; rfl, by unfold Sg.ok; simp, HDW.out w' hg, by show x.data.length ≤ c; rw [HN.out]; exact HLC.out, HCM.out, HAN.out⟩ HND.out
    rw [HTL.out] at h
    exact h
  have HLU : Hid (∀ w', Gro (fun _ => False) w6 w' → Calls Try.prog 15 #[.agg #[.int .u16 (x.src : Int), .int .u16 (x.dst : Int), .int .u32 (x.seq : Int), .int .u32 (x.ack : Int), .int .u8 (fo.toNat : Int), .int .u16 (x.wnd : Int), .int .u16 (x.mss : Int), .slice A n c]] w' fun e w'' => e = .returned (.int .i64 ((n : Int) + 2)) ∧ Below w'.heap.size w' w'') := fun w' hg => by
    have h := len_any #[.int .u16 (x.src : Int), .int .u16 (x.dst : Int), .int .u32 (x.seq : Int), .int .u32 (x.ack : Int), .int .u8 (fo.toNat : Int), .int .u16 (x.wnd : Int), .int .u16 (x.mss : Int), .slice A n c] ⟨x.src, x.dst, x.seq, x.ack, fo, x.wnd, x.mss, x.data⟩ 0 w.heap.size w' ⟨A, c, by show _ = #[_, _, _, _, _, _, _, Value.slice A x.data.length c]; rw [HN.out], HOK.out, HDW.out w' hg, by show x.data.length ≤ c; rw [HN.out]; exact HLC.out, HCM.out, HAN.out⟩ HND.out
    rw [HUL.out] at h
    exact h
  --STOP1
  apply wp_region_relyQ (fun _ => true) (fun _ => False) (RL [Is (.int .i64 (r : Int)), Is _, Is (.slice A n c), Is (.int .i64 (n : Int)), Is (.bool true), Is (.bool true), Is _, Is _, Is (.slice A n c), Is (.int .i64 (n : Int)), Is (.int .i64 ((n : Int) + 2)), Is (.bool true), Is (.bool true), Is (.bool true), Is (.agg #[.int .u16 0, .int .u16 0, .int .u32 0, .int .u32 0, .int .u8 (fa.toNat : Int), .int .u16 0, .int .u16 0, .slice A n c]), Is (.int .i64 (r : Int)), Is (.int .i64 (r : Int)), Is (.bool true), Is (.bool true), Is (.bool true), Is (.agg #[.int .u16 (x.src : Int), .int .u16 (x.dst : Int), .int .u32 (x.seq : Int), .int .u32 (x.ack : Int), .int .u8 (fo.toNat : Int), .int .u16 (x.wnd : Int), .int .u16 (x.mss : Int), .slice A n c]), Is (.int .i64 ((n : Int) + 2)), Is _, Is (.slice A n c), Is (.int .i64 (n : Int)), Is (.int .i64 ((n : Int) + 2)), Is (.bool true), Is (.bool true), Is (.bool true)]) [false, false, true, false, false, false, false, false, false, false, false, false, false, false, false, false, false, false, false, false, false, false, false, false, false, false, false, false, true, true, true, true, true, true, true, true, true, true, true, true, true, true, true, true, true, true, true, true, true, true, true, true, true, true, true, true]
  · kernel_rfl
  · kernel_rfl
  · kernel_rfl
  · refine ⟨?_, ?_, ?_, ?_, ?_, ?_, ?_, ?_, ?_, ?_, ?_, ?_, ?_, ?_, ?_, ?_, ?_, ?_, ?_, ?_, ?_, ?_, ?_, ?_, ?_, ?_, ?_, ?_, ?_, trivial⟩
    · refine ⟨rfl, ?_⟩
      refine (if_pos (by decide)).mpr ?_
      intro ev w' hC hc hf hb hr K hK
      have e3 : ev (.tmp 3) = _ := hb 3 (by kernel_rfl)
      have HK := Lib.hid hK
      have HC := Lib.hid hC
      clear hb hr hK hC hf
      unfold Run
      simp [execOp, Upon, go_sem, *]
      exact HK.out _ _ (.inl (Below.refl _ _)) rfl
    · refine ⟨rfl, ?_⟩
      refine (if_pos (by decide)).mpr ?_
      intro ev w' hC hc hf hb hr K hK
      have e1 : ev (.tmp 1) = _ := hb 1 (by kernel_rfl)
      have HK := Lib.hid hK
      have HC := Lib.hid hC
      clear hb hr hK hC hf
      unfold Run
      simp [execOp, Upon, go_sem, *]
      exact HK.out _ _ (.inl (Below.refl _ _)) rfl
    · refine ⟨rfl, ?_⟩
      refine (if_pos (by decide)).mpr ?_
      intro ev w' hC hc hf hb hr K hK
      have e29 := hr 1 _ rfl (by kernel_rfl)
      change ev (.tmp 29) = _ at e29
      have HK := Lib.hid hK
      have HC := Lib.hid hC
      clear hb hr hK hC hf
      have k7 := K7.out w' HC.out
      unfold Run
      simp [execOp, Upon, go_sem, *]
      exact HK.out _ _ (.inl (Below.refl _ _)) rfl
    · refine ⟨rfl, ?_⟩
      refine (if_pos (by decide)).mpr ?_
      intro ev w' hC hc hf hb hr K hK
      have e30 := hr 2 _ rfl (by kernel_rfl)
      change ev (.tmp 30) = _ at e30
      have HK := Lib.hid hK
      have HC := Lib.hid hC
      clear hb hr hK hC hf
      unfold Run
      rw [run_lenE _ 24 5 Try.underlying24 rfl e30]
      exact HK.out _ _ (.inl (Below.refl _ _)) rfl
    · refine ⟨rfl, ?_⟩
      refine (if_pos (by decide)).mpr ?_
      intro ev w' hC hc hf hb hr K hK
      have e28 := hr 0 _ rfl (by kernel_rfl)
      have e31 := hr 3 _ rfl (by kernel_rfl)
      change ev (.tmp 28) = _ at e28
      change ev (.tmp 31) = _ at e31
      have HK := Lib.hid hK
      have HC := Lib.hid hC
      clear hb hr hK hC hf
      unfold Run
      simp [execOp, Upon, go_sem, *]
      exact HK.out _ _ (.inl (Below.refl _ _)) rfl
    · refine ⟨rfl, ?_⟩
      refine (if_pos (by decide)).mpr ?_
      intro ev w' hC hc hf hb hr K hK
      have e32 := hr 4 _ rfl (by kernel_rfl)
      change ev (.tmp 32) = _ at e32
      have HK := Lib.hid hK
      have HC := Lib.hid hC
      clear hb hr hK hC hf
      unfold Run
      simp [execOp, Upon, go_sem, *]
      exact HK.out _ _ (.inl (Below.refl _ _)) rfl
    · refine ⟨⟨_, _, rfl, rfl, fun v w h => h⟩, ?_⟩
      refine (if_pos (by decide)).mpr ?_
      intro ev w' hC hc hf hb hr K hK
      have e3 : ev (.tmp 3) = _ := hb 3 (by kernel_rfl)
      have HK := Lib.hid hK
      have HC := Lib.hid hC
      clear hb hr hK hC hf
      unfold Run
      simp [execOp, Upon, go_sem, *]
      exact HK.out _ _ (.inl (Below.refl _ _)) rfl
    · refine ⟨⟨_, _, rfl, rfl, fun v w h => h⟩, ?_⟩
      refine (if_pos (by decide)).mpr ?_
      intro ev w' hC hc hf hb hr K hK
      have e1 : ev (.tmp 1) = _ := hb 1 (by kernel_rfl)
      have HK := Lib.hid hK
      have HC := Lib.hid hC
      clear hb hr hK hC hf
      unfold Run
      simp [execOp, Upon, go_sem, *]
      exact HK.out _ _ (.inl (Below.refl _ _)) rfl
    · refine ⟨⟨_, _, rfl, rfl, fun v w h => h⟩, ?_⟩
      refine (if_pos (by decide)).mpr ?_
      intro ev w' hC hc hf hb hr K hK
      have e35 := hr 7 _ rfl (by kernel_rfl)
      change ev (.tmp 35) = _ at e35
      have HK := Lib.hid hK
      have HC := Lib.hid hC
      clear hb hr hK hC hf
      have k7 := K7.out w' HC.out
      unfold Run
      simp [execOp, Upon, go_sem, *]
      exact HK.out _ _ (.inl (Below.refl _ _)) rfl
    · refine ⟨⟨_, _, rfl, rfl, fun v w h => h⟩, ?_⟩
      refine (if_pos (by decide)).mpr ?_
      intro ev w' hC hc hf hb hr K hK
      have e36 := hr 8 _ rfl (by kernel_rfl)
      change ev (.tmp 36) = _ at e36
      have HK := Lib.hid hK
      have HC := Lib.hid hC
      clear hb hr hK hC hf
      unfold Run
      rw [run_lenE _ 24 5 Try.underlying24 rfl e36]
      exact HK.out _ _ (.inl (Below.refl _ _)) rfl
    · refine ⟨⟨_, _, rfl, rfl, fun v w h => h⟩, ?_⟩
      refine (if_pos (by decide)).mpr ?_
      intro ev w' hC hc hf hb hr K hK
      have e37 := hr 9 _ rfl (by kernel_rfl)
      change ev (.tmp 37) = _ at e37
      have HK := Lib.hid hK
      have HC := Lib.hid hC
      clear hb hr hK hC hf
      unfold Run
      simp [execOp, Upon, go_sem, *]
      exact HK.out _ _ (.inl (Below.refl _ _)) rfl
    · refine ⟨⟨_, _, rfl, rfl, fun v w h => h⟩, ?_⟩
      refine (if_pos (by decide)).mpr ?_
      intro ev w' hC hc hf hb hr K hK
      have e34 := hr 6 _ rfl (by kernel_rfl)
      have e38 := hr 10 _ rfl (by kernel_rfl)
      change ev (.tmp 34) = _ at e34
      change ev (.tmp 38) = _ at e38
      have HK := Lib.hid hK
      have HC := Lib.hid hC
      clear hb hr hK hC hf
      unfold Run
      simp [execOp, Upon, go_sem, *]
      exact HK.out _ _ (.inl (Below.refl _ _)) rfl
    · refine ⟨rfl, ?_⟩
      refine (if_pos (by decide)).mpr ?_
      intro ev w' hC hc hf hb hr K hK
      have e33 := hr 5 _ rfl (by kernel_rfl)
      have e39 := hr 11 _ rfl (by kernel_rfl)
      change ev (.tmp 33) = _ at e33
      change ev (.tmp 39) = _ at e39
      have HK := Lib.hid hK
      have HC := Lib.hid hC
      clear hb hr hK hC hf
      unfold Run
      simp [execOp, Upon, go_sem, *]
      exact HK.out _ _ (.inl (Below.refl _ _)) rfl
    · refine ⟨rfl, ?_⟩
      refine (if_pos (by decide)).mpr ?_
      intro ev w' hC hc hf hb hr K hK
      have e40 := hr 12 _ rfl (by kernel_rfl)
      change ev (.tmp 40) = _ at e40
      have HK := Lib.hid hK
      have HC := Lib.hid hC
      clear hb hr hK hC hf
      unfold Run
      simp [execOp, Upon, go_sem, *]
      exact HK.out _ _ (.inl (Below.refl _ _)) rfl
    · refine ⟨⟨_, _, rfl, rfl, fun v w h => h⟩, ?_⟩
      refine (if_pos (by decide)).mpr ?_
      intro ev w' hC hc hf hb hr K hK
      have e4 : ev (.tmp 4) = _ := hb 4 (by kernel_rfl)
      have HK := Lib.hid hK
      have HC := Lib.hid hC
      clear hb hr hK hC hf
      have q1 : ev (.tmp 4) = .pointer (some ⟨w3.heap.size, 0, none⟩) := e4
      have hld := run_loadVar_row (P := Try.prog) w' (w3.heap.size) 26 26 #[.int .u16 0, .int .u16 0, .int .u32 0, .int .u32 0, .int .u8 (fa.toNat : Int), .int .u16 0, .int .u16 0, .slice A n c] (0, 0) _ (HT.out w' HC.out) Try.underlying26 rfl (by kernel_rfl)
      unfold Run
      rw [run_loadE 26 _ rfl q1 hld]
      exact HK.out _ _ (.inl (Below.refl _ _)) rfl
    · refine ⟨⟨_, _, rfl, rfl, fun v w h => h⟩, ?_⟩
      refine (if_pos (by decide)).mpr ?_
      intro ev w' hC hc hf hb hr K hK
      have e42 := hr 14 _ rfl (by kernel_rfl)
      change ev (.tmp 42) = _ at e42
      have HK := Lib.hid hK
      have HC := Lib.hid hC
      clear hb hr hK hC
      unfold Run
      simp [execOp, Upon, go_sem, *]
      refine (HLT.out w' HC.out).mono ?_
      rintro e w3 ⟨rfl, hb⟩
      exact ⟨_, rfl, HK.out _ _ (.inl hb) rfl⟩
    · refine ⟨⟨_, _, rfl, rfl, fun v w h => h⟩, ?_⟩
      refine (if_pos (by decide)).mpr ?_
      intro ev w' hC hc hf hb hr K hK
      have e3 : ev (.tmp 3) = _ := hb 3 (by kernel_rfl)
      have HK := Lib.hid hK
      have HC := Lib.hid hC
      clear hb hr hK hC hf
      unfold Run
      simp [execOp, Upon, go_sem, *]
      exact HK.out _ _ (.inl (Below.refl _ _)) rfl
    · refine ⟨⟨_, _, rfl, rfl, fun v w h => h⟩, ?_⟩
      refine (if_pos (by decide)).mpr ?_
      intro ev w' hC hc hf hb hr K hK
      have e43 := hr 15 _ rfl (by kernel_rfl)
      have e44 := hr 16 _ rfl (by kernel_rfl)
      change ev (.tmp 43) = _ at e43
      change ev (.tmp 44) = _ at e44
      have HK := Lib.hid hK
      have HC := Lib.hid hC
      clear hb hr hK hC hf
      unfold Run
      simp [execOp, Upon, go_sem, *]
      exact HK.out _ _ (.inl (Below.refl _ _)) rfl
    · refine ⟨rfl, ?_⟩
      refine (if_pos (by decide)).mpr ?_
      intro ev w' hC hc hf hb hr K hK
      have e41 := hr 13 _ rfl (by kernel_rfl)
      have e45 := hr 17 _ rfl (by kernel_rfl)
      change ev (.tmp 41) = _ at e41
      change ev (.tmp 45) = _ at e45
      have HK := Lib.hid hK
      have HC := Lib.hid hC
      clear hb hr hK hC hf
      unfold Run
      simp [execOp, Upon, go_sem, *]
      exact HK.out _ _ (.inl (Below.refl _ _)) rfl
    · refine ⟨rfl, ?_⟩
      refine (if_pos (by decide)).mpr ?_
      intro ev w' hC hc hf hb hr K hK
      have e46 := hr 18 _ rfl (by kernel_rfl)
      change ev (.tmp 46) = _ at e46
      have HK := Lib.hid hK
      have HC := Lib.hid hC
      clear hb hr hK hC hf
      unfold Run
      simp [execOp, Upon, go_sem, *]
      exact HK.out _ _ (.inl (Below.refl _ _)) rfl
    · refine ⟨⟨_, _, rfl, rfl, fun v w h => h⟩, ?_⟩
      refine (if_pos (by decide)).mpr ?_
      intro ev w' hC hc hf hb hr K hK
      have e5 : ev (.tmp 5) = _ := hb 5 (by kernel_rfl)
      have HK := Lib.hid hK
      have HC := Lib.hid hC
      clear hb hr hK hC hf
      have q1 : ev (.tmp 5) = .pointer (some ⟨w4.heap.size, 0, none⟩) := e5
      have hld := run_loadVar_row (P := Try.prog) w' (w4.heap.size) 26 26 #[.int .u16 (x.src : Int), .int .u16 (x.dst : Int), .int .u32 (x.seq : Int), .int .u32 (x.ack : Int), .int .u8 (fo.toNat : Int), .int .u16 (x.wnd : Int), .int .u16 (x.mss : Int), .slice A n c] (0, 0) _ (HU.out w' HC.out) Try.underlying26 rfl (by kernel_rfl)
      unfold Run
      rw [run_loadE 26 _ rfl q1 hld]
      exact HK.out _ _ (.inl (Below.refl _ _)) rfl
    · refine ⟨⟨_, _, rfl, rfl, fun v w h => h⟩, ?_⟩
      refine (if_pos (by decide)).mpr ?_
      intro ev w' hC hc hf hb hr K hK
      have e48 := hr 20 _ rfl (by kernel_rfl)
      change ev (.tmp 48) = _ at e48
      have HK := Lib.hid hK
      have HC := Lib.hid hC
      clear hb hr hK hC
      unfold Run
      simp [execOp, Upon, go_sem, *]
      refine (HLU.out w' HC.out).mono ?_
      rintro e w3 ⟨rfl, hb⟩
      exact ⟨_, rfl, HK.out _ _ (.inl hb) rfl⟩
    · refine ⟨⟨_, _, rfl, rfl, fun v w h => h⟩, ?_⟩
      refine (if_pos (by decide)).mpr ?_
      intro ev w' hC hc hf hb hr K hK
      have e1 : ev (.tmp 1) = _ := hb 1 (by kernel_rfl)
      have HK := Lib.hid hK
      have HC := Lib.hid hC
      clear hb hr hK hC hf
      unfold Run
      simp [execOp, Upon, go_sem, *]
      exact HK.out _ _ (.inl (Below.refl _ _)) rfl
    · refine ⟨⟨_, _, rfl, rfl, fun v w h => h⟩, ?_⟩
      refine (if_pos (by decide)).mpr ?_
      intro ev w' hC hc hf hb hr K hK
      have e50 := hr 22 _ rfl (by kernel_rfl)
      change ev (.tmp 50) = _ at e50
      have HK := Lib.hid hK
      have HC := Lib.hid hC
      clear hb hr hK hC hf
      have k7 := K7.out w' HC.out
      unfold Run
      simp [execOp, Upon, go_sem, *]
      exact HK.out _ _ (.inl (Below.refl _ _)) rfl
    · refine ⟨⟨_, _, rfl, rfl, fun v w h => h⟩, ?_⟩
      refine (if_pos (by decide)).mpr ?_
      intro ev w' hC hc hf hb hr K hK
      have e51 := hr 23 _ rfl (by kernel_rfl)
      change ev (.tmp 51) = _ at e51
      have HK := Lib.hid hK
      have HC := Lib.hid hC
      clear hb hr hK hC hf
      unfold Run
      rw [run_lenE _ 24 5 Try.underlying24 rfl e51]
      exact HK.out _ _ (.inl (Below.refl _ _)) rfl
    · refine ⟨⟨_, _, rfl, rfl, fun v w h => h⟩, ?_⟩
      refine (if_pos (by decide)).mpr ?_
      intro ev w' hC hc hf hb hr K hK
      have e52 := hr 24 _ rfl (by kernel_rfl)
      change ev (.tmp 52) = _ at e52
      have HK := Lib.hid hK
      have HC := Lib.hid hC
      clear hb hr hK hC hf
      unfold Run
      simp [execOp, Upon, go_sem, *]
      exact HK.out _ _ (.inl (Below.refl _ _)) rfl
    · refine ⟨⟨_, _, rfl, rfl, fun v w h => h⟩, ?_⟩
      refine (if_pos (by decide)).mpr ?_
      intro ev w' hC hc hf hb hr K hK
      have e49 := hr 21 _ rfl (by kernel_rfl)
      have e53 := hr 25 _ rfl (by kernel_rfl)
      change ev (.tmp 49) = _ at e49
      change ev (.tmp 53) = _ at e53
      have HK := Lib.hid hK
      have HC := Lib.hid hC
      clear hb hr hK hC hf
      unfold Run
      simp [execOp, Upon, go_sem, *]
      exact HK.out _ _ (.inl (Below.refl _ _)) rfl
    · refine ⟨rfl, ?_⟩
      refine (if_pos (by decide)).mpr ?_
      intro ev w' hC hc hf hb hr K hK
      have e47 := hr 19 _ rfl (by kernel_rfl)
      have e54 := hr 26 _ rfl (by kernel_rfl)
      change ev (.tmp 47) = _ at e47
      change ev (.tmp 54) = _ at e54
      have HK := Lib.hid hK
      have HC := Lib.hid hC
      clear hb hr hK hC hf
      unfold Run
      simp [execOp, Upon, go_sem, *]
      exact HK.out _ _ (.inl (Below.refl _ _)) rfl
    · refine ⟨rfl, ?_⟩
      refine (if_pos (by decide)).mpr ?_
      intro ev w' hC hc hf hb hr K hK
      have e55 := hr 27 _ rfl (by kernel_rfl)
      change ev (.tmp 55) = _ at e55
      have HK := Lib.hid hK
      have HC := Lib.hid hC
      clear hb hr hK hC hf
      unfold Run
      simp [execOp, Upon, go_sem, *]
      exact HK.out _ _ (.inl (Below.refl _ _)) rfl
  · exact rl_mono ⟨is_mono _, is_mono _, is_mono _, is_mono _, is_mono _, is_mono _, is_mono _, is_mono _, is_mono _, is_mono _, is_mono _, is_mono _, is_mono _, is_mono _, is_mono _, is_mono _, is_mono _, is_mono _, is_mono _, is_mono _, is_mono _, is_mono _, is_mono _, is_mono _, is_mono _, is_mono _, is_mono _, is_mono _, is_mono _, trivial⟩
  intro us wr hG hH
  obtain ⟨-, -, -, -, -, -, -, -, -, -, -, -, -, -, -, -, -, -, -, -, -, -, -, -, -, -, -, -, h28, -⟩ := hH
  simp only [fillM]
  change us 2 = _ at h28
  rw [h28]
  clear h28
  generalize us 28 = v28
  generalize us 29 = v29
  generalize us 30 = v30
  generalize us 31 = v31
  generalize us 32 = v32
  generalize us 33 = v33
  generalize us 34 = v34
  generalize us 35 = v35
  generalize us 36 = v36
  generalize us 37 = v37
  generalize us 38 = v38
  generalize us 39 = v39
  generalize us 40 = v40
  generalize us 41 = v41
  generalize us 42 = v42
  generalize us 43 = v43
  generalize us 44 = v44
  generalize us 45 = v45
  generalize us 46 = v46
  generalize us 47 = v47
  generalize us 48 = v48
  generalize us 49 = v49
  generalize us 50 = v50
  generalize us 51 = v51
  generalize us 52 = v52
  generalize us 53 = v53
  generalize us 54 = v54
  generalize us 55 = v55
  have HBF : Hid (Below w.heap.size w wr) := HB6.out.trans (hG.belowF.mono HB6.out.size)
  clear hG
  go_wp2
  go_ret
  exact ⟨rfl, HBF.out⟩
end Go.Proofs.Ytjgdmkmfnkaoaaa
