/-
  The document's own answer for the packet of bytes (caravelref06.Parse): what the plain function gives, the data in a row of the call's own. Every text.
-/
import Derived.Test.YtbmjjhflaocgiaaParse
import Derived.Deep.DeepCutAuto
namespace Go.Proofs.Ytbmjjhflaocgiaa
open Go.RowKit

/-- a text's bytes in a new row: how much room, and the world -/
def capB (w : World) (n : Nat) : Nat := grownCap w n 0 5
def bwB (w : World) (l : List UInt8) : World := w.drew.alloc (.cells (bytesRow ⟨l.toArray⟩ (grownCap w l.length 0 5)) 5 ((bytesRow ⟨l.toArray⟩ (grownCap w l.length 0 5)).size, (bytesRow ⟨l.toArray⟩ (grownCap w l.length 0 5)).size + 1))
theorem run_bytes (w : World) (l : List UInt8) (n : Nat) (hn : l.length = n) : (convert 9 25 (.string ⟨l.toArray⟩)).run Try.prog w = .ok (.slice (some ⟨w.heap.size, 0, none⟩) n (capB w n)) (bwB w l) := by
  subst hn
  exact run_bytes_of_string w 9 25 5 ⟨l.toArray⟩ Try.underlying9 Try.underlying25 Try.underlying5
theorem bw_size (w : World) (l : List UInt8) : (bwB w l).heap.size = w.heap.size + 1 := by unfold bwB; simp
theorem bw_below {B : Nat} {a w : World} (h : Below B a w) (hB : B ≤ w.heap.size) (l : List UInt8) : Below B a (bwB w l) := by
  unfold bwB
  exact (h.drew).alloc hB _
theorem bw_rd (w : World) (l : List UInt8) : Rd (bwB w l) w.heap.size (w.heap.size + 1) (some ⟨w.heap.size, 0, none⟩) (cells l) := by
  refine rd_mid (cs := bytesRow ⟨l.toArray⟩ (grownCap w l.length 0 5)) (t := 5) (heap_alloc_new w.drew _) fun k u hu => ?_
  have hk := (List.getElem?_eq_some_iff.1 hu).1
  rw [cells_length] at hk
  rw [cells_get l k hk] at hu
  cases hu
  rw [Nat.zero_add, bytesRow_at _ _ k (by simpa using hk)]
  simp
theorem cap_ok (w : World) (n : Nat) (hn : n ≤ 1000000000) : n ≤ capB w n ∧ capB w n ≤ maxLen := ⟨grownCap_ge w _ _ _, grownCap_le_maxLen w n 0 5 (by unfold maxLen; omega)⟩
theorem ba_take (l : List UInt8) (a b : Nat) : (⟨l.toArray⟩ : ByteArray).extract a b = ⟨((l.take b).drop a).toArray⟩ := by
  apply ByteArray.ext
  simp [List.drop_take]

set_option maxRecDepth 100000 in
set_option maxHeartbeats 1000000 in
theorem refparse_short (l : List UInt8) (w : World) (hl : l.length < 20) : Calls Try.prog 13 #[txt l] w (ParsePost w (parseP l)) := by
  have HE : Hid (parseP l = (Pk.zero, 6)) := by show _ = _; unfold parseP; rw [if_pos hl]
  have HB2 := Lib.hid ((Below.refl w.heap.size w).alloc (Nat.le_refl _) (.cells #[.int .u16 0, .bool false, .int .i64 0, .int .u8 0, .int .u8 0, .int .u8 0, .int .u8 0, .int .u8 0, .int .u8 0, .int .u8 0, .int .u8 0, .int .u8 0, .int .u8 0, .slice none 0 0] 27))
  have HG1 := Lib.hid (heap_alloc_new w (.cells #[.int .u16 0, .bool false, .int .i64 0, .int .u8 0, .int .u8 0, .int .u8 0, .int .u8 0, .int .u8 0, .int .u8 0, .int .u8 0, .int .u8 0, .int .u8 0, .int .u8 0, .slice none 0 0] 27))
  have HB3 := Lib.hid (HB2.out.alloc HB2.out.size (.cells #[.int .u16 0, .bool false, .int .i64 0, .int .u8 0, .int .u8 0, .int .u8 0, .int .u8 0, .int .u8 0, .int .u8 0, .int .u8 0, .int .u8 0, .int .u8 0, .int .u8 0, .slice none 0 0] 27))
  have HG2 := Lib.hid (old_alloc HG1.out (.cells #[.int .u16 0, .bool false, .int .i64 0, .int .u8 0, .int .u8 0, .int .u8 0, .int .u8 0, .int .u8 0, .int .u8 0, .int .u8 0, .int .u8 0, .int .u8 0, .int .u8 0, .slice none 0 0] 27))
  have hn2 := heap_alloc_new (w.alloc (.cells #[.int .u16 0, .bool false, .int .i64 0, .int .u8 0, .int .u8 0, .int .u8 0, .int .u8 0, .int .u8 0, .int .u8 0, .int .u8 0, .int .u8 0, .int .u8 0, .int .u8 0, .slice none 0 0] 27)) (.cells #[.int .u16 0, .bool false, .int .i64 0, .int .u8 0, .int .u8 0, .int .u8 0, .int .u8 0, .int .u8 0, .int .u8 0, .int .u8 0, .int .u8 0, .int .u8 0, .int .u8 0, .slice none 0 0] 27)
  rw [World.size_alloc] at hn2
  have HN2 := Lib.hid hn2
  clear hn2
  go_enter Try.func13, Try.ntmps13
  go_upto_if 11 with (fail)
  generalize (w.alloc (.cells #[.int .u16 0, .bool false, .int .i64 0, .int .u8 0, .int .u8 0, .int .u8 0, .int .u8 0, .int .u8 0, .int .u8 0, .int .u8 0, .int .u8 0, .int .u8 0, .int .u8 0, .slice none 0 0] 27)).alloc (.cells #[.int .u16 0, .bool false, .int .i64 0, .int .u8 0, .int .u8 0, .int .u8 0, .int .u8 0, .int .u8 0, .int .u8 0, .int .u8 0, .int .u8 0, .int .u8 0, .int .u8 0, .slice none 0 0] 27) = w2 at HG2 HN2 HB3 ⊢
  clear HB2
  have HB2 := HB3
  go_wp2_with (first | refine wpList_load_row rfl 27 _ rfl (w.heap.size + 1) rfl 27 #[.int .u16 0, .bool false, .int .i64 0, .int .u8 0, .int .u8 0, .int .u8 0, .int .u8 0, .int .u8 0, .int .u8 0, .int .u8 0, .int .u8 0, .int .u8 0, .int .u8 0, .slice none 0 0] (0, 0) _ HN2.out Try.underlying27 rfl (by kernel_rfl) ?_ | refine wpList_store_row rfl 27 _ _ rfl w.heap.size #[.int .u16 0, .bool false, .int .i64 0, .int .u8 0, .int .u8 0, .int .u8 0, .int .u8 0, .int .u8 0, .int .u8 0, .int .u8 0, .int .u8 0, .int .u8 0, .int .u8 0, .slice none 0 0] rfl rfl _ _ HG2.out (by kernel_rfl) rfl (by kernel_rfl) ?_)
  (try simp only [Exit.inBlock, Exit.then])
  refine ret_row (g := w.heap.size) (cs := #[.int .u16 0, .bool false, .int .i64 0, .int .u8 0, .int .u8 0, .int .u8 0, .int .u8 0, .int .u8 0, .int .u8 0, .int .u8 0, .int .u8 0, .int .u8 0, .int .u8 0, .slice none 0 0]) rfl rfl (load_pk (setRow_heap w2 _ _ _ _ _ HG2.out) rfl) rfl ?_
  rw [HE.out]
  exact ⟨_, rfl, zero_pkV _ _ _, below_setRow HB2.out (Nat.le_refl _) _⟩

theorem four_at (l : List UInt8) (k : Nat) (h : k + 3 < l.length) : (l.drop k).take 4 = [l[k], l[k + 1], l[k + 2], l[k + 3]] := by
  rw [List.drop_eq_getElem_cons (by omega), List.take_succ_cons, List.drop_eq_getElem_cons (by omega), List.take_succ_cons, List.drop_eq_getElem_cons (by omega), List.take_succ_cons, List.drop_eq_getElem_cons (by omega), List.take_succ_cons, List.take_zero]

set_option maxRecDepth 100000 in
set_option maxHeartbeats 8000000 in
theorem refparse_go (l : List UInt8) (w : World) (h20 : 20 ≤ l.length) (hl : l.length ≤ 100000) : Calls Try.prog 13 #[txt l] w (ParsePost w (parseP l)) := by
  obtain ⟨x, hx⟩ : ∃ x, l[0]'(by omega) = x := ⟨_, rfl⟩
  have hxl := x.toNat_lt
  have hx0 : l.getD 0 0 = x := by rw [List.getD_eq_getElem?_getD, List.getElem?_eq_getElem (by omega), hx]; rfl
  have hx2 : (⟨l.toArray⟩ : ByteArray)[0]'(by show 0 < l.length; omega) = x := hx
  obtain ⟨h0, hh0⟩ : ∃ h0, x.toNat % 16 = h0 := ⟨_, rfl⟩
  obtain ⟨hd, hhd⟩ : ∃ hd, headOf l = hd := ⟨_, rfl⟩
  have hd4 : hd = 4 * h0 := by rw [← hhd, ← hh0]; unfold headOf; rw [hx0]
  have h015 : h0 ≤ 15 := by omega
  have t1 : Int.tmod (x.toNat : Int) 16 = (h0 : Int) := by rw [Int.tmod_eq_emod_of_nonneg (by omega)]; omega
  have t2 : (x.toNat : Int) % 16 = (h0 : Int) := by omega
  have t3 : IntKind.u8.wrap (h0 : Int) = (h0 : Int) := IntWalk.u8_in _ ⟨by omega, by omega⟩
  have t4 : IntKind.i64.wrap (h0 : Int) = (h0 : Int) := IntWalk.i64_in _ ⟨by omega, by omega⟩
  have HMUL : Hid (IntKind.i64.wrap (4 * (h0 : Int)) = (hd : Int)) := by show _ = _; rw [IntWalk.i64_in _ ⟨by omega, by omega⟩]; omega
  obtain ⟨al, hal⟩ : ∃ al, numAt l 2 = al := ⟨_, rfl⟩
  obtain ⟨pl, hpl⟩ : ∃ pl, numAt l 6 = pl := ⟨_, rfl⟩
  have hall : al < 65536 := by rw [← hal]; exact numAt_lt l 2
  have hpll : pl < 65536 := by rw [← hpl]; exact numAt_lt l 6
  have HAL := Lib.hid hal
  have HPL := Lib.hid hpl
  have HHD := Lib.hid hhd
  have HPZ : Hid (parseP l = if x.toNat / 16 ≠ 4 ∨ hd < 20 ∨ al < hd then (Pk.zero, 7) else if l.length < al then (Pk.zero, 6) else if sumL (l.take hd) ≠ 65535 then (Pk.zero, 8) else (pkOf l, 0)) := by
    show _ = _
    unfold parseP
    rw [if_neg (by omega), hx0, hhd, hal]
  have HX2 := Lib.hid hx2
  have HL63 : Hid (l.length ≤ maxLen) := by show _ ≤ _; unfold maxLen; omega
  have HB2 := Lib.hid ((Below.refl w.heap.size w).alloc (Nat.le_refl _) (.cells #[.int .u16 0, .bool false, .int .i64 0, .int .u8 0, .int .u8 0, .int .u8 0, .int .u8 0, .int .u8 0, .int .u8 0, .int .u8 0, .int .u8 0, .int .u8 0, .int .u8 0, .slice none 0 0] 27))
  have HG1 := Lib.hid (heap_alloc_new w (.cells #[.int .u16 0, .bool false, .int .i64 0, .int .u8 0, .int .u8 0, .int .u8 0, .int .u8 0, .int .u8 0, .int .u8 0, .int .u8 0, .int .u8 0, .int .u8 0, .int .u8 0, .slice none 0 0] 27))
  have HB3 := Lib.hid (HB2.out.alloc HB2.out.size (.cells #[.int .u16 0, .bool false, .int .i64 0, .int .u8 0, .int .u8 0, .int .u8 0, .int .u8 0, .int .u8 0, .int .u8 0, .int .u8 0, .int .u8 0, .int .u8 0, .int .u8 0, .slice none 0 0] 27))
  have HG2 := Lib.hid (old_alloc HG1.out (.cells #[.int .u16 0, .bool false, .int .i64 0, .int .u8 0, .int .u8 0, .int .u8 0, .int .u8 0, .int .u8 0, .int .u8 0, .int .u8 0, .int .u8 0, .int .u8 0, .int .u8 0, .slice none 0 0] 27))
  have hn2 := heap_alloc_new (w.alloc (.cells #[.int .u16 0, .bool false, .int .i64 0, .int .u8 0, .int .u8 0, .int .u8 0, .int .u8 0, .int .u8 0, .int .u8 0, .int .u8 0, .int .u8 0, .int .u8 0, .int .u8 0, .slice none 0 0] 27)) (.cells #[.int .u16 0, .bool false, .int .i64 0, .int .u8 0, .int .u8 0, .int .u8 0, .int .u8 0, .int .u8 0, .int .u8 0, .int .u8 0, .int .u8 0, .int .u8 0, .int .u8 0, .slice none 0 0] 27)
  rw [World.size_alloc] at hn2
  have HN2 := Lib.hid hn2
  have hd60 : hd ≤ 60 := by omega
  clear hx hx0 hh0 hhd hd4 hal hpl hx2 hn2
  go_enter Try.func13, Try.ntmps13
  go_upto_region 4 with (fail)
  clear HB2
  generalize (w.alloc (.cells #[.int .u16 0, .bool false, .int .i64 0, .int .u8 0, .int .u8 0, .int .u8 0, .int .u8 0, .int .u8 0, .int .u8 0, .int .u8 0, .int .u8 0, .int .u8 0, .int .u8 0, .slice none 0 0] 27)).alloc (.cells #[.int .u16 0, .bool false, .int .i64 0, .int .u8 0, .int .u8 0, .int .u8 0, .int .u8 0, .int .u8 0, .int .u8 0, .int .u8 0, .int .u8 0, .int .u8 0, .int .u8 0, .slice none 0 0] 27) = w2 at HG2 HN2 HB3 ⊢
  have HB2 := HB3
  have hx2 := HX2.out
  have i1 : (0 : Int) < (l.length : Int) := by omega
  have i2 : 0 < l.length := by omega
  apply wp_region_rely (fun _ => False) (RL [Is _, Is _, Is _, Is _, Is (.int .i64 (hd : Int)), Is _, Is (.int .i64 (al : Int)), Is (.int .i64 (hd : Int)), Is (.int .i64 (al : Int))]) [false, false, false, false, false, true, true, false, false, false, false, false, false, true, true, true, true, true, true, true, false, false, false, false, false, false, false, false, false, false, false, false, false, false, false, false, false, false, false, false, false, false, false, false, false, false, false, false, false, false, false, false, false, false, false, false, false, false, false, false, false, false, false, false, false, false, false, false, false, false, false, false, false, false, false, false, false, false, false, false, false, false, false, false, false]
  · kernel_rfl
  · kernel_rfl
  · kernel_rfl
  · refine ⟨?_, ?_, ?_, ?_, ?_, ?_, ?_, ?_, ?_, trivial⟩
    · intro ev w' hC hc hf hb hr K hK
      have e0 : ev (.tmp 0) = _ := hb 0 (by kernel_rfl)
      have HK := Lib.hid hK
      have HC := Lib.hid hC
      clear hb hr hK hC hf
      unfold Run
      simp [execOp, Upon, go_sem, *]
      exact HK.out _ _ (.inl (Below.refl _ _)) rfl
    · intro ev w' hC hc hf hb hr K hK
      have e13 := hr 0 _ rfl (by kernel_rfl)
      change ev (.tmp 13) = _ at e13
      have HK := Lib.hid hK
      have HC := Lib.hid hC
      clear hb hr hK hC hf
      unfold Run
      simp [execOp, Upon, go_sem, *]
      exact HK.out _ _ (.inl (Below.refl _ _)) rfl
    · intro ev w' hC hc hf hb hr K hK
      have e14 := hr 1 _ rfl (by kernel_rfl)
      change ev (.tmp 14) = _ at e14
      have HK := Lib.hid hK
      have HC := Lib.hid hC
      clear hb hr hK hC hf
      unfold Run
      simp [execOp, Upon, go_sem, *]
      exact HK.out _ _ (.inl (Below.refl _ _)) rfl
    · intro ev w' hC hc hf hb hr K hK
      have e15 := hr 2 _ rfl (by kernel_rfl)
      change ev (.tmp 15) = _ at e15
      have HK := Lib.hid hK
      have HC := Lib.hid hC
      clear hb hr hK hC hf
      unfold Run
      simp [execOp, Upon, go_sem, *]
      exact HK.out _ _ (.inl (Below.refl _ _)) rfl
    · intro ev w' hC hc hf hb hr K hK
      have e16 := hr 3 _ rfl (by kernel_rfl)
      change ev (.tmp 16) = _ at e16
      have HK := Lib.hid hK
      have HC := Lib.hid hC
      clear hb hr hK hC hf
      unfold Run
      simp [execOp, Upon, go_sem, *]
      exact HK.out _ _ (.inl (Below.refl _ _)) (by show Value.int _ _ = Value.int _ _; congr 1; first | done | exact HMUL.out)
    · intro ev w' hC hc hf hb hr K hK
      have e0 : ev (.tmp 0) = _ := hb 0 (by kernel_rfl)
      have HK := Lib.hid hK
      have HC := Lib.hid hC
      clear hb hr hK hC hf
      unfold Run
      simp [execOp, Upon, go_sem, *]
      exact HK.out _ _ (.inl (Below.refl _ _)) rfl
    · intro ev w' hC hc hf hb hr K hK
      have e18 := hr 5 _ rfl (by kernel_rfl)
      change ev (.tmp 18) = _ at e18
      have HK := Lib.hid hK
      have HC := Lib.hid hC
      clear hb hr hK hC
      unfold Run
      simp [execOp, Upon, go_sem, *]
      refine (num_any l 2 _ (by omega) HL63.out).mono ?_
      rintro e w2 ⟨rfl, hb⟩
      exact ⟨_, rfl, HK.out _ _ (.inl hb) (by show _ = _; rw [HAL.out])⟩
    · intro ev w' hC hc hf hb hr K hK
      have e17 := hr 4 _ rfl (by kernel_rfl)
      change ev (.tmp 17) = _ at e17
      have HK := Lib.hid hK
      have HC := Lib.hid hC
      clear hb hr hK hC hf
      unfold Run
      simp [execOp, Upon, go_sem, *]
      exact HK.out _ _ (.inl (Below.refl _ _)) rfl
    · intro ev w' hC hc hf hb hr K hK
      have e19 := hr 6 _ rfl (by kernel_rfl)
      change ev (.tmp 19) = _ at e19
      have HK := Lib.hid hK
      have HC := Lib.hid hC
      clear hb hr hK hC hf
      unfold Run
      simp [execOp, Upon, go_sem, *]
      exact HK.out _ _ (.inl (Below.refl _ _)) rfl
  · exact rl_mono ⟨is_mono _, is_mono _, is_mono _, is_mono _, is_mono _, is_mono _, is_mono _, is_mono _, is_mono _, trivial⟩
  intro us wr hG hH
  obtain ⟨-, -, -, -, -, -, -, h7, h8, -⟩ := hH
  simp only [fillM]
  change us 5 = _ at h7
  rw [h7]
  clear h7
  change us 6 = _ at h8
  rw [h8]
  clear h8
  generalize us 13 = v13
  generalize us 14 = v14
  generalize us 15 = v15
  generalize us 16 = v16
  generalize us 17 = v17
  generalize us 18 = v18
  generalize us 19 = v19
  clear t1 t2 t3 t4 hx2 i1 i2 HB3
  have HBr : Hid (Below w.heap.size w wr) := HB2.out.trans (hG.belowF.mono HB2.out.size)
  have HGr := Lib.hid ((hG.block _ (row_lt HG2.out) (fun h => h)).trans HG2.out)
  have HNr := Lib.hid ((hG.block _ (row_lt HN2.out) (fun h => h)).trans HN2.out)
  clear hG HB2 HG2 HN2
  have hx2 := HX2.out
  by_cases q1 : x.toNat / 16 = 4
  · have v1 : ((x.toNat : Int) / 16 != 4) = false := bneF (by omega)
    by_cases q2 : hd < 20
    · have HE : Hid (parseP l = (Pk.zero, 7)) := by show _ = _; rw [HPZ.out, if_pos (.inr (.inl q2))]
      have v2 : (hd : Int) < 20 := by omega
      clear q1 q2
      go_wp2_with (first | refine wpList_load_row rfl 27 _ rfl (w.heap.size + 1) rfl 27 #[.int .u16 0, .bool false, .int .i64 0, .int .u8 0, .int .u8 0, .int .u8 0, .int .u8 0, .int .u8 0, .int .u8 0, .int .u8 0, .int .u8 0, .int .u8 0, .int .u8 0, .slice none 0 0] (0, 0) _ HNr.out Try.underlying27 rfl (by kernel_rfl) ?_ | refine wpList_store_row rfl 27 _ _ rfl w.heap.size #[.int .u16 0, .bool false, .int .i64 0, .int .u8 0, .int .u8 0, .int .u8 0, .int .u8 0, .int .u8 0, .int .u8 0, .int .u8 0, .int .u8 0, .int .u8 0, .int .u8 0, .slice none 0 0] rfl rfl _ _ HGr.out (by kernel_rfl) rfl (by kernel_rfl) ?_)
      (try simp only [Exit.inBlock, Exit.then])
      refine ret_row (g := w.heap.size) (cs := #[.int .u16 0, .bool false, .int .i64 0, .int .u8 0, .int .u8 0, .int .u8 0, .int .u8 0, .int .u8 0, .int .u8 0, .int .u8 0, .int .u8 0, .int .u8 0, .int .u8 0, .slice none 0 0]) rfl rfl (load_pk (setRow_heap wr _ _ _ _ _ HGr.out) rfl) rfl ?_
      rw [HE.out]
      exact ⟨_, rfl, zero_pkV _ _ _, below_setRow HBr.out (Nat.le_refl _) _⟩
    · have v2 : 20 ≤ (hd : Int) := by omega
      by_cases q3 : al < hd
      · have HE : Hid (parseP l = (Pk.zero, 7)) := by show _ = _; rw [HPZ.out, if_pos (.inr (.inr q3))]
        have v3 : (al : Int) < (hd : Int) := by omega
        clear q1 q2 q3
        go_wp2_with (first | refine wpList_load_row rfl 27 _ rfl (w.heap.size + 1) rfl 27 #[.int .u16 0, .bool false, .int .i64 0, .int .u8 0, .int .u8 0, .int .u8 0, .int .u8 0, .int .u8 0, .int .u8 0, .int .u8 0, .int .u8 0, .int .u8 0, .int .u8 0, .slice none 0 0] (0, 0) _ HNr.out Try.underlying27 rfl (by kernel_rfl) ?_ | refine wpList_store_row rfl 27 _ _ rfl w.heap.size #[.int .u16 0, .bool false, .int .i64 0, .int .u8 0, .int .u8 0, .int .u8 0, .int .u8 0, .int .u8 0, .int .u8 0, .int .u8 0, .int .u8 0, .int .u8 0, .int .u8 0, .slice none 0 0] rfl rfl _ _ HGr.out (by kernel_rfl) rfl (by kernel_rfl) ?_)
        (try simp only [Exit.inBlock, Exit.then])
        refine ret_row (g := w.heap.size) (cs := #[.int .u16 0, .bool false, .int .i64 0, .int .u8 0, .int .u8 0, .int .u8 0, .int .u8 0, .int .u8 0, .int .u8 0, .int .u8 0, .int .u8 0, .int .u8 0, .int .u8 0, .slice none 0 0]) rfl rfl (load_pk (setRow_heap wr _ _ _ _ _ HGr.out) rfl) rfl ?_
        rw [HE.out]
        exact ⟨_, rfl, zero_pkV _ _ _, below_setRow HBr.out (Nat.le_refl _) _⟩
      · have v3 : (hd : Int) ≤ (al : Int) := by omega
        have HPZ2 := Lib.hid (HPZ.out.trans (if_neg (by omega)))
        by_cases q4 : l.length < al
        · have HE : Hid (parseP l = (Pk.zero, 6)) := by show _ = _; rw [HPZ2.out, if_pos q4]
          have v4 : (l.length : Int) < (al : Int) := by omega
          clear q1 q2 q3 q4
          go_wp2_with (first | refine wpList_load_row rfl 27 _ rfl (w.heap.size + 1) rfl 27 #[.int .u16 0, .bool false, .int .i64 0, .int .u8 0, .int .u8 0, .int .u8 0, .int .u8 0, .int .u8 0, .int .u8 0, .int .u8 0, .int .u8 0, .int .u8 0, .int .u8 0, .slice none 0 0] (0, 0) _ HNr.out Try.underlying27 rfl (by kernel_rfl) ?_ | refine wpList_store_row rfl 27 _ _ rfl w.heap.size #[.int .u16 0, .bool false, .int .i64 0, .int .u8 0, .int .u8 0, .int .u8 0, .int .u8 0, .int .u8 0, .int .u8 0, .int .u8 0, .int .u8 0, .int .u8 0, .int .u8 0, .slice none 0 0] rfl rfl _ _ HGr.out (by kernel_rfl) rfl (by kernel_rfl) ?_)
          (try simp only [Exit.inBlock, Exit.then])
          refine ret_row (g := w.heap.size) (cs := #[.int .u16 0, .bool false, .int .i64 0, .int .u8 0, .int .u8 0, .int .u8 0, .int .u8 0, .int .u8 0, .int .u8 0, .int .u8 0, .int .u8 0, .int .u8 0, .int .u8 0, .slice none 0 0]) rfl rfl (load_pk (setRow_heap wr _ _ _ _ _ HGr.out) rfl) rfl ?_
          rw [HE.out]
          exact ⟨_, rfl, zero_pkV _ _ _, below_setRow HBr.out (Nat.le_refl _) _⟩
        · have v4 : (al : Int) ≤ (l.length : Int) := by omega
          have HPZ3 := Lib.hid (HPZ2.out.trans (if_neg (by omega)))
          have v5 : (hd : Int) ≤ (l.length : Int) := by omega
          have hex := ba_take l 0 hd
          rw [List.drop_zero] at hex
          have HTK : Hid ((l.take hd).length ≤ 1000000) := by show _ ≤ _; rw [List.length_take]; omega
          clear q1 q2 q3 q4
          go_wp2_with fail
          ((with_reducible refine (reffold_any (l.take hd) _ HTK.out).mono ?_); rintro e w3' ⟨rfl, rfl⟩)
          clear hex
          by_cases q5 : sumL (l.take hd) = 65535
          · have HPZ4 : Hid (parseP l = (pkOf l, 0)) := HPZ3.out.trans (if_neg (by simp [q5]))
            have v6 : (((sumL (l.take hd) : Nat) : Int) != 65535) = false := bneF (by omega)
            clear q5
            go_wp2_with fail
            refine (num_any l 6 _ (by omega) HL63.out).mono ?_
            rintro e w5 ⟨rfl, hb5⟩
            rw [HPL.out]
            have HB5 : Hid (Below w.heap.size w w5) := HBr.out.trans (hb5.mono HBr.out.size)
            have hg5 := (hb5.block _ (row_lt HGr.out)).trans HGr.out
            have HGG := Lib.hid hg5
            have HGB : Hid (w.heap.size < w5.heap.size) := row_lt hg5
            clear hb5 hg5 HBr HGr HNr v6 hx2
            go_upto_region 12 with (fail)
            obtain ⟨id, hid⟩ : ∃ id, numAt l 4 = id := ⟨_, rfl⟩
            have HID := Lib.hid hid
            have get : ∀ k (hk : k < l.length), l[k]? = some l[k] := fun k hk => List.getElem?_eq_getElem hk
            have hbyte : ∀ k (hk : k < 20), (⟨l.toArray⟩ : ByteArray)[k]'(by show k < l.length; omega) = l[k] := fun k hk => rfl
            obtain ⟨ttl, httl⟩ : ∃ y, l[8] = y := ⟨_, rfl⟩
            obtain ⟨proto, hproto⟩ : ∃ y, l[9] = y := ⟨_, rfl⟩
            obtain ⟨s0, hs0⟩ : ∃ y, l[12] = y := ⟨_, rfl⟩
            obtain ⟨s1, hs1⟩ : ∃ y, l[13] = y := ⟨_, rfl⟩
            obtain ⟨s2, hs2⟩ : ∃ y, l[14] = y := ⟨_, rfl⟩
            obtain ⟨s3, hs3⟩ : ∃ y, l[15] = y := ⟨_, rfl⟩
            obtain ⟨d0, hd0⟩ : ∃ y, l[16] = y := ⟨_, rfl⟩
            obtain ⟨d1, hd1⟩ : ∃ y, l[17] = y := ⟨_, rfl⟩
            obtain ⟨d2, hd2⟩ : ∃ y, l[18] = y := ⟨_, rfl⟩
            obtain ⟨d3, hd3⟩ : ∃ y, l[19] = y := ⟨_, rfl⟩
            have z8 : (⟨l.toArray⟩ : ByteArray)[8]'(by show 8 < l.length; omega) = ttl := httl
            have z9 : (⟨l.toArray⟩ : ByteArray)[9]'(by show 9 < l.length; omega) = proto := hproto
            have z12 : (⟨l.toArray⟩ : ByteArray)[12]'(by show 12 < l.length; omega) = s0 := hs0
            have z13 : (⟨l.toArray⟩ : ByteArray)[13]'(by show 13 < l.length; omega) = s1 := hs1
            have z14 : (⟨l.toArray⟩ : ByteArray)[14]'(by show 14 < l.length; omega) = s2 := hs2
            have z15 : (⟨l.toArray⟩ : ByteArray)[15]'(by show 15 < l.length; omega) = s3 := hs3
            have z16 : (⟨l.toArray⟩ : ByteArray)[16]'(by show 16 < l.length; omega) = d0 := hd0
            have z17 : (⟨l.toArray⟩ : ByteArray)[17]'(by show 17 < l.length; omega) = d1 := hd1
            have z18 : (⟨l.toArray⟩ : ByteArray)[18]'(by show 18 < l.length; omega) = d2 := hd2
            have z19 : (⟨l.toArray⟩ : ByteArray)[19]'(by show 19 < l.length; omega) = d3 := hd3
            have hs4 : (l.drop 12).take 4 = [s0, s1, s2, s3] := by
              rw [← hs0, ← hs1, ← hs2, ← hs3]
              exact four_at l 12 (by omega)
            have hd4 : (l.drop 16).take 4 = [d0, d1, d2, d3] := by
              rw [← hd0, ← hd1, ← hd2, ← hd3]
              exact four_at l 16 (by omega)
            obtain ⟨data, hdata⟩ : ∃ data, (l.take al).drop hd = data := ⟨_, rfl⟩
            have hdl : data.length = al - hd := by rw [← hdata]; simp; omega
            have HDL : Hid (data.length ≤ 1000000000) := by show _ ≤ _; omega
            have hext := ba_take l hd al
            rw [hdata] at hext
            have HEXT2 := Lib.hid hext
            obtain ⟨mr, hmr⟩ : ∃ mr, decide (pl / 8192 % 2 = 1) = mr := ⟨_, rfl⟩
            obtain ⟨off, hoff⟩ : ∃ off : Int, ((pl % 8192 * 8 : Nat) : Int) = off := ⟨_, rfl⟩
            have HPK : Hid (pkOf l = ⟨id, mr, off, ttl, proto, [s0, s1, s2, s3], [d0, d1, d2, d3], data⟩) := by
              show _ = _
              unfold pkOf
              rw [HID.out, HPL.out, HAL.out, HHD.out, hs4, hd4, hdata, hmr, hoff]
              simp [List.getD_eq_getElem?_getD, get 8 (by omega), get 9 (by omega), httl, hproto]
            have HOB : Hid (-9223372036854775808 ≤ off ∧ off ≤ 9223372036854775807) := by show _ ∧ _; omega
            have HIB : Hid (id < 65536) := by show _ < _; rw [← hid]; exact numAt_lt l 4
            have hidl : id < 65536 := HIB.out
            have HU16 : Hid (IntKind.u16.wrap (id : Int) = (id : Int)) := IntWalk.u16_in _ ⟨by omega, by omega⟩
            have n1 : (pl : Int).tdiv 8192 = ((pl / 8192 : Nat) : Int) := by rw [Int.tdiv_eq_ediv_of_nonneg (by omega)]; omega
            have n1' : (pl : Int) / 8192 = ((pl / 8192 : Nat) : Int) := by omega
            have n3 : (pl : Int).tmod 8192 = ((pl % 8192 : Nat) : Int) := by rw [Int.tmod_eq_emod_of_nonneg (by omega)]; omega
            have n3' : (pl : Int) % 8192 = ((pl % 8192 : Nat) : Int) := by omega
            have n2 : ((pl / 8192 : Nat) : Int).tmod 2 = ((pl / 8192 % 2 : Nat) : Int) := by rw [Int.tmod_eq_emod_of_nonneg (by omega)]; omega
            have n2' : ((pl / 8192 : Nat) : Int) % 2 = ((pl / 8192 % 2 : Nat) : Int) := by omega
            have n4 : IntKind.i64.wrap ((pl / 8192 : Nat) : Int) = ((pl / 8192 : Nat) : Int) := IntWalk.i64_in _ ⟨by omega, by omega⟩
            have HOFF : Hid (IntKind.i64.wrap (((pl % 8192 : Nat) : Int) * 8) = off) := by show _ = _; rw [IntWalk.i64_in _ ⟨by omega, by omega⟩]; omega
            have HMR : Hid ((pl / 8192 % 2 = 1) ↔ mr = true) := by
              show _ ↔ _
              rw [← hmr]
              simp only [decide_eq_true_eq]
            obtain ⟨p1, hp1⟩ : ∃ p1, pl / 8192 = p1 := ⟨_, rfl⟩
            obtain ⟨p3, hp3⟩ : ∃ p3, pl % 8192 = p3 := ⟨_, rfl⟩
            rw [hp1] at n1 n1' n2 n2' n4 HMR
            rw [hp3] at n3 n3' HOFF
            obtain ⟨p2, hp2⟩ : ∃ p2, p1 % 2 = p2 := ⟨_, rfl⟩
            rw [hp2] at n2 n2' HMR
            have k8 : (8 : Int) < (l.length : Int) := by omega
            have k9 : (9 : Int) < (l.length : Int) := by omega
            have k12 : (12 : Int) < (l.length : Int) := by omega
            have m12 : 12 < l.length := by omega
            have k13 : (13 : Int) < (l.length : Int) := by omega
            have m13 : 13 < l.length := by omega
            have k14 : (14 : Int) < (l.length : Int) := by omega
            have m14 : 14 < l.length := by omega
            have k15 : (15 : Int) < (l.length : Int) := by omega
            have m15 : 15 < l.length := by omega
            have k16 : (16 : Int) < (l.length : Int) := by omega
            have m16 : 16 < l.length := by omega
            have k17 : (17 : Int) < (l.length : Int) := by omega
            have m17 : 17 < l.length := by omega
            have k18 : (18 : Int) < (l.length : Int) := by omega
            have m18 : 18 < l.length := by omega
            have k19 : (19 : Int) < (l.length : Int) := by omega
            have m19 : 19 < l.length := by omega
            have m8 : 8 < l.length := by omega
            have m9 : 9 < l.length := by omega
            have j2 : hd ≤ al := by omega
            have j1 : al ≤ l.length := by omega
            clear hid get hbyte httl hproto hs0 hs1 hs2 hs3 hd0 hd1 hd2 hd3 hs4 hd4 hdata hdl hmr hoff hext hp1 hp2 hp3 hidl
            apply wp_region_rely (· = w.heap.size) (RL [Is _, Is (.int .i64 (id : Int)), Is (.int .u16 (id : Int)), Is _, Is _, Is _, Is (.bool mr), Is _, Is _, Is (.int .i64 off), Is _, Is _, Is _, Is _, Is _, Is _, Is _, Is _, Is _, Is _, Is _, Is _, Is _, Is _, Is _, Is _, Is _, Is _, Is _, Is _, Is _, Is _, Is _, Is _, Is _, Is (txt data), Fresh w5.heap.size data, PktV w5.heap.size ⟨id, mr, off, ttl, proto, [s0, s1, s2, s3], [d0, d1, d2, d3], data⟩, StV w5.heap.size w.heap.size ⟨id, mr, off, ttl, proto, [s0, s1, s2, s3], [d0, d1, d2, d3], data⟩, Is (.int .i64 0)]) [false, false, false, true, false, false, false, false, false, false, false, false, false, false, false, false, false, false, false, false, false, false, false, false, false, false, false, false, false, false, false, false, false, false, false, false, false, false, false, false, false, false, false, false, false, false, false, true, true, true, true, true, true, true, true, true, true, true, true, true, true, true, true, true, true, true, true, true, true, true, true, true, true, true, true, true, true, true, true, true, true, true, true, true, true]
            · kernel_rfl
            · kernel_rfl
            · kernel_rfl
            · refine ⟨?_, ?_, ?_, ?_, ?_, ?_, ?_, ?_, ?_, ?_, ?_, ?_, ?_, ?_, ?_, ?_, ?_, ?_, ?_, ?_, ?_, ?_, ?_, ?_, ?_, ?_, ?_, ?_, ?_, ?_, ?_, ?_, ?_, ?_, ?_, ?_, ?_, ?_, ?_, ?_, trivial⟩
              · intro ev w' hC hc hf hb hr K hK
                have e0 : ev (.tmp 0) = _ := hb 0 (by kernel_rfl)
                have HK := Lib.hid hK
                have HC := Lib.hid hC
                clear hb hr hK hC hf
                unfold Run
                simp [execOp, Upon, go_sem, *]
                exact HK.out _ _ (.inl (Below.refl _ _)) rfl
              · intro ev w' hC hc hf hb hr K hK
                have e47 := hr 0 _ rfl (by kernel_rfl)
                change ev (.tmp 47) = _ at e47
                have HK := Lib.hid hK
                have HC := Lib.hid hC
                clear hb hr hK hC
                unfold Run
                simp [execOp, Upon, go_sem, *]
                refine (num_any l 4 _ (by omega) HL63.out).mono ?_
                rintro e w2 ⟨rfl, hb⟩
                exact ⟨_, rfl, HK.out _ _ (.inl hb) (by show _ = _; rw [HID.out])⟩
              · intro ev w' hC hc hf hb hr K hK
                have e48 := hr 1 _ rfl (by kernel_rfl)
                change ev (.tmp 48) = _ at e48
                have HK := Lib.hid hK
                have HC := Lib.hid hC
                clear hb hr hK hC hf
                unfold Run
                simp [execOp, Upon, go_sem, *]
                exact HK.out _ _ (.inl (Below.refl _ _)) (by show Value.int _ _ = Value.int _ _; congr 1; first | done | exact HU16.out)
              · intro ev w' hC hc hf hb hr K hK
                have e7 : ev (.tmp 7) = _ := hb 7 (by kernel_rfl)
                have HK := Lib.hid hK
                have HC := Lib.hid hC
                clear hb hr hK hC hf
                unfold Run
                simp [execOp, Upon, go_sem, *]
                exact HK.out _ _ (.inl (Below.refl _ _)) rfl
              · intro ev w' hC hc hf hb hr K hK
                have e50 := hr 3 _ rfl (by kernel_rfl)
                change ev (.tmp 50) = _ at e50
                have HK := Lib.hid hK
                have HC := Lib.hid hC
                clear hb hr hK hC hf
                unfold Run
                simp [execOp, Upon, go_sem, *]
                exact HK.out _ _ (.inl (Below.refl _ _)) rfl
              · intro ev w' hC hc hf hb hr K hK
                have e51 := hr 4 _ rfl (by kernel_rfl)
                change ev (.tmp 51) = _ at e51
                have HK := Lib.hid hK
                have HC := Lib.hid hC
                clear hb hr hK hC hf
                unfold Run
                simp [execOp, Upon, go_sem, *]
                exact HK.out _ _ (.inl (Below.refl _ _)) rfl
              · intro ev w' hC hc hf hb hr K hK
                have e52 := hr 5 _ rfl (by kernel_rfl)
                change ev (.tmp 52) = _ at e52
                have HK := Lib.hid hK
                have HC := Lib.hid hC
                clear hb hr hK hC hf
                unfold Run
                simp [execOp, Upon, go_sem, *]
                exact HK.out _ _ (.inl (Below.refl _ _)) (by show Value.bool _ = Value.bool mr; congr 1; rw [Bool.eq_iff_iff, ← HMR.out]; first | done | (simp; done) | (simp; omega))
              · intro ev w' hC hc hf hb hr K hK
                have e7 : ev (.tmp 7) = _ := hb 7 (by kernel_rfl)
                have HK := Lib.hid hK
                have HC := Lib.hid hC
                clear hb hr hK hC hf
                unfold Run
                simp [execOp, Upon, go_sem, *]
                exact HK.out _ _ (.inl (Below.refl _ _)) rfl
              · intro ev w' hC hc hf hb hr K hK
                have e54 := hr 7 _ rfl (by kernel_rfl)
                change ev (.tmp 54) = _ at e54
                have HK := Lib.hid hK
                have HC := Lib.hid hC
                clear hb hr hK hC hf
                unfold Run
                simp [execOp, Upon, go_sem, *]
                exact HK.out _ _ (.inl (Below.refl _ _)) rfl
              · intro ev w' hC hc hf hb hr K hK
                have e55 := hr 8 _ rfl (by kernel_rfl)
                change ev (.tmp 55) = _ at e55
                have HK := Lib.hid hK
                have HC := Lib.hid hC
                clear hb hr hK hC hf
                unfold Run
                simp [execOp, Upon, go_sem, *]
                exact HK.out _ _ (.inl (Below.refl _ _)) (by show Value.int _ _ = Value.int _ _; congr 1; first | done | exact HOFF.out)
              · intro ev w' hC hc hf hb hr K hK
                have e0 : ev (.tmp 0) = _ := hb 0 (by kernel_rfl)
                have HK := Lib.hid hK
                have HC := Lib.hid hC
                clear hb hr hK hC hf
                unfold Run
                simp [execOp, Upon, go_sem, *]
                exact HK.out _ _ (.inl (Below.refl _ _)) rfl
              · intro ev w' hC hc hf hb hr K hK
                have e57 := hr 10 _ rfl (by kernel_rfl)
                change ev (.tmp 57) = _ at e57
                have HK := Lib.hid hK
                have HC := Lib.hid hC
                clear hb hr hK hC hf
                unfold Run
                simp [execOp, Upon, go_sem, *]
                exact HK.out _ _ (.inl (Below.refl _ _)) rfl
              · intro ev w' hC hc hf hb hr K hK
                have e0 : ev (.tmp 0) = _ := hb 0 (by kernel_rfl)
                have HK := Lib.hid hK
                have HC := Lib.hid hC
                clear hb hr hK hC hf
                unfold Run
                simp [execOp, Upon, go_sem, *]
                exact HK.out _ _ (.inl (Below.refl _ _)) rfl
              · intro ev w' hC hc hf hb hr K hK
                have e59 := hr 12 _ rfl (by kernel_rfl)
                change ev (.tmp 59) = _ at e59
                have HK := Lib.hid hK
                have HC := Lib.hid hC
                clear hb hr hK hC hf
                unfold Run
                simp [execOp, Upon, go_sem, *]
                exact HK.out _ _ (.inl (Below.refl _ _)) rfl
              · intro ev w' hC hc hf hb hr K hK
                have e0 : ev (.tmp 0) = _ := hb 0 (by kernel_rfl)
                have HK := Lib.hid hK
                have HC := Lib.hid hC
                clear hb hr hK hC hf
                unfold Run
                simp [execOp, Upon, go_sem, *]
                exact HK.out _ _ (.inl (Below.refl _ _)) rfl
              · intro ev w' hC hc hf hb hr K hK
                have e61 := hr 14 _ rfl (by kernel_rfl)
                change ev (.tmp 61) = _ at e61
                have HK := Lib.hid hK
                have HC := Lib.hid hC
                clear hb hr hK hC hf
                unfold Run
                simp [execOp, Upon, go_sem, *]
                exact HK.out _ _ (.inl (Below.refl _ _)) rfl
              · intro ev w' hC hc hf hb hr K hK
                have e0 : ev (.tmp 0) = _ := hb 0 (by kernel_rfl)
                have HK := Lib.hid hK
                have HC := Lib.hid hC
                clear hb hr hK hC hf
                unfold Run
                simp [execOp, Upon, go_sem, *]
                exact HK.out _ _ (.inl (Below.refl _ _)) rfl
              · intro ev w' hC hc hf hb hr K hK
                have e63 := hr 16 _ rfl (by kernel_rfl)
                change ev (.tmp 63) = _ at e63
                have HK := Lib.hid hK
                have HC := Lib.hid hC
                clear hb hr hK hC hf
                unfold Run
                simp [execOp, Upon, go_sem, *]
                exact HK.out _ _ (.inl (Below.refl _ _)) rfl
              · intro ev w' hC hc hf hb hr K hK
                have e0 : ev (.tmp 0) = _ := hb 0 (by kernel_rfl)
                have HK := Lib.hid hK
                have HC := Lib.hid hC
                clear hb hr hK hC hf
                unfold Run
                simp [execOp, Upon, go_sem, *]
                exact HK.out _ _ (.inl (Below.refl _ _)) rfl
              · intro ev w' hC hc hf hb hr K hK
                have e65 := hr 18 _ rfl (by kernel_rfl)
                change ev (.tmp 65) = _ at e65
                have HK := Lib.hid hK
                have HC := Lib.hid hC
                clear hb hr hK hC hf
                unfold Run
                simp [execOp, Upon, go_sem, *]
                exact HK.out _ _ (.inl (Below.refl _ _)) rfl
              · intro ev w' hC hc hf hb hr K hK
                have e0 : ev (.tmp 0) = _ := hb 0 (by kernel_rfl)
                have HK := Lib.hid hK
                have HC := Lib.hid hC
                clear hb hr hK hC hf
                unfold Run
                simp [execOp, Upon, go_sem, *]
                exact HK.out _ _ (.inl (Below.refl _ _)) rfl
              · intro ev w' hC hc hf hb hr K hK
                have e67 := hr 20 _ rfl (by kernel_rfl)
                change ev (.tmp 67) = _ at e67
                have HK := Lib.hid hK
                have HC := Lib.hid hC
                clear hb hr hK hC hf
                unfold Run
                simp [execOp, Upon, go_sem, *]
                exact HK.out _ _ (.inl (Below.refl _ _)) rfl
              · intro ev w' hC hc hf hb hr K hK
                have e62 := hr 15 _ rfl (by kernel_rfl)
                have e64 := hr 17 _ rfl (by kernel_rfl)
                have e66 := hr 19 _ rfl (by kernel_rfl)
                have e68 := hr 21 _ rfl (by kernel_rfl)
                change ev (.tmp 62) = _ at e62
                change ev (.tmp 64) = _ at e64
                change ev (.tmp 66) = _ at e66
                change ev (.tmp 68) = _ at e68
                have HK := Lib.hid hK
                have HC := Lib.hid hC
                clear hb hr hK hC hf
                unfold Run
                simp [execOp, Upon, go_sem, *]
                exact HK.out _ _ (.inl (Below.refl _ _)) rfl
              · intro ev w' hC hc hf hb hr K hK
                have e0 : ev (.tmp 0) = _ := hb 0 (by kernel_rfl)
                have HK := Lib.hid hK
                have HC := Lib.hid hC
                clear hb hr hK hC hf
                unfold Run
                simp [execOp, Upon, go_sem, *]
                exact HK.out _ _ (.inl (Below.refl _ _)) rfl
              · intro ev w' hC hc hf hb hr K hK
                have e70 := hr 23 _ rfl (by kernel_rfl)
                change ev (.tmp 70) = _ at e70
                have HK := Lib.hid hK
                have HC := Lib.hid hC
                clear hb hr hK hC hf
                unfold Run
                simp [execOp, Upon, go_sem, *]
                exact HK.out _ _ (.inl (Below.refl _ _)) rfl
              · intro ev w' hC hc hf hb hr K hK
                have e0 : ev (.tmp 0) = _ := hb 0 (by kernel_rfl)
                have HK := Lib.hid hK
                have HC := Lib.hid hC
                clear hb hr hK hC hf
                unfold Run
                simp [execOp, Upon, go_sem, *]
                exact HK.out _ _ (.inl (Below.refl _ _)) rfl
              · intro ev w' hC hc hf hb hr K hK
                have e72 := hr 25 _ rfl (by kernel_rfl)
                change ev (.tmp 72) = _ at e72
                have HK := Lib.hid hK
                have HC := Lib.hid hC
                clear hb hr hK hC hf
                unfold Run
                simp [execOp, Upon, go_sem, *]
                exact HK.out _ _ (.inl (Below.refl _ _)) rfl
              · intro ev w' hC hc hf hb hr K hK
                have e0 : ev (.tmp 0) = _ := hb 0 (by kernel_rfl)
                have HK := Lib.hid hK
                have HC := Lib.hid hC
                clear hb hr hK hC hf
                unfold Run
                simp [execOp, Upon, go_sem, *]
                exact HK.out _ _ (.inl (Below.refl _ _)) rfl
              · intro ev w' hC hc hf hb hr K hK
                have e74 := hr 27 _ rfl (by kernel_rfl)
                change ev (.tmp 74) = _ at e74
                have HK := Lib.hid hK
                have HC := Lib.hid hC
                clear hb hr hK hC hf
                unfold Run
                simp [execOp, Upon, go_sem, *]
                exact HK.out _ _ (.inl (Below.refl _ _)) rfl
              · intro ev w' hC hc hf hb hr K hK
                have e0 : ev (.tmp 0) = _ := hb 0 (by kernel_rfl)
                have HK := Lib.hid hK
                have HC := Lib.hid hC
                clear hb hr hK hC hf
                unfold Run
                simp [execOp, Upon, go_sem, *]
                exact HK.out _ _ (.inl (Below.refl _ _)) rfl
              · intro ev w' hC hc hf hb hr K hK
                have e76 := hr 29 _ rfl (by kernel_rfl)
                change ev (.tmp 76) = _ at e76
                have HK := Lib.hid hK
                have HC := Lib.hid hC
                clear hb hr hK hC hf
                unfold Run
                simp [execOp, Upon, go_sem, *]
                exact HK.out _ _ (.inl (Below.refl _ _)) rfl
              · intro ev w' hC hc hf hb hr K hK
                have e71 := hr 24 _ rfl (by kernel_rfl)
                have e73 := hr 26 _ rfl (by kernel_rfl)
                have e75 := hr 28 _ rfl (by kernel_rfl)
                have e77 := hr 30 _ rfl (by kernel_rfl)
                change ev (.tmp 71) = _ at e71
                change ev (.tmp 73) = _ at e73
                change ev (.tmp 75) = _ at e75
                change ev (.tmp 77) = _ at e77
                have HK := Lib.hid hK
                have HC := Lib.hid hC
                clear hb hr hK hC hf
                unfold Run
                simp [execOp, Upon, go_sem, *]
                exact HK.out _ _ (.inl (Below.refl _ _)) rfl
              · intro ev w' hC hc hf hb hr K hK
                have e0 : ev (.tmp 0) = _ := hb 0 (by kernel_rfl)
                have HK := Lib.hid hK
                have HC := Lib.hid hC
                clear hb hr hK hC hf
                unfold Run
                simp [execOp, Upon, go_sem, *]
                exact HK.out _ _ (.inl (Below.refl _ _)) rfl
              · intro ev w' hC hc hf hb hr K hK
                have e5 : ev (.tmp 5) = _ := hb 5 (by kernel_rfl)
                have HK := Lib.hid hK
                have HC := Lib.hid hC
                clear hb hr hK hC hf
                unfold Run
                simp [execOp, Upon, go_sem, *]
                exact HK.out _ _ (.inl (Below.refl _ _)) rfl
              · intro ev w' hC hc hf hb hr K hK
                have e6 : ev (.tmp 6) = _ := hb 6 (by kernel_rfl)
                have HK := Lib.hid hK
                have HC := Lib.hid hC
                clear hb hr hK hC hf
                unfold Run
                simp [execOp, Upon, go_sem, *]
                exact HK.out _ _ (.inl (Below.refl _ _)) rfl
              · intro ev w' hC hc hf hb hr K hK
                have e79 := hr 32 _ rfl (by kernel_rfl)
                have e80 := hr 33 _ rfl (by kernel_rfl)
                have e81 := hr 34 _ rfl (by kernel_rfl)
                change ev (.tmp 79) = _ at e79
                change ev (.tmp 80) = _ at e80
                change ev (.tmp 81) = _ at e81
                have HK := Lib.hid hK
                have HC := Lib.hid hC
                clear hb hr hK hC hf
                unfold Run
                simp [execOp, Upon, go_sem, *]
                exact HK.out _ _ (.inl (Below.refl _ _)) (by show Value.string _ = Value.string _; congr 1; first | done | exact HEXT2.out)
              · intro ev w' hC hc hf hb hr K hK
                have e82 := hr 35 _ rfl (by kernel_rfl)
                change ev (.tmp 82) = _ at e82
                have HK := Lib.hid hK
                have HC := Lib.hid hC
                clear hb hr hK hC hf
                have kb := run_bytes w' data data.length rfl
                have HCAP := Lib.hid (cap_ok w' data.length HDL.out)
                unfold Run
                simp [execOp, Upon, go_sem, *]
                exact HK.out _ _ (.inl (bw_below (Below.refl _ _) (Nat.le_refl _) _)) ⟨_, _, rfl, ((bw_rd w' data).wide HC.out.size (by rw [bw_size]; exact Nat.le_refl _)), (fun h => by cases h), HCAP.out⟩
              · intro ev w' hC hc hf hb hr K hK
                have e49 := hr 2 _ rfl (by kernel_rfl)
                have e53 := hr 6 _ rfl (by kernel_rfl)
                have e56 := hr 9 _ rfl (by kernel_rfl)
                have e58 := hr 11 _ rfl (by kernel_rfl)
                have e60 := hr 13 _ rfl (by kernel_rfl)
                have e69 := hr 22 _ rfl (by kernel_rfl)
                have e78 := hr 31 _ rfl (by kernel_rfl)
                have e83 := hr 36 _ rfl (by kernel_rfl)
                change ev (.tmp 49) = _ at e49
                change ev (.tmp 53) = _ at e53
                change ev (.tmp 56) = _ at e56
                change ev (.tmp 58) = _ at e58
                change ev (.tmp 60) = _ at e60
                change ev (.tmp 69) = _ at e69
                change ev (.tmp 78) = _ at e78
                change (Fresh w5.heap.size data : Pred) (ev (.tmp 83)) _ at e83
                have HK := Lib.hid hK
                have HC := Lib.hid hC
                clear hb hr hK hC hf
                obtain ⟨A76, c76, q76, r76, z76, l76, m76⟩ := e83
                have R76 := Lib.hid (And.intro r76 (And.intro z76 (And.intro l76 m76)))
                clear r76 z76 l76 m76
                unfold Run
                simp [execOp, Upon, go_sem, *]
                exact HK.out _ _ (.inl (Below.refl _ _)) ⟨A76, c76, rfl, R76.out⟩
              · intro ev w' hC hc hf hb hr K hK
                have e2 : ev (.tmp 2) = _ := hb 2 (by kernel_rfl)
                have e84 := hr 37 _ rfl (by kernel_rfl)
                change (PktV w5.heap.size ⟨id, mr, off, ttl, proto, [s0, s1, s2, s3], [d0, d1, d2, d3], data⟩ : Pred) (ev (.tmp 84)) _ at e84
                have HK := Lib.hid hK
                have HC := Lib.hid hC
                clear hb hr hK hC hf
                obtain ⟨A77, c77, q77, r77⟩ := e84
                obtain ⟨old, hold, hsz⟩ := HC.out.shape w.heap.size _ _ _ HGG.out
                have hst := run_storeVar_row (P := Try.prog) w' w.heap.size 27 27 old (pkC (⟨id, mr, off, ttl, proto, [s0, s1, s2, s3], [d0, d1, d2, d3], data⟩ : Pk) (.slice A77 data.length c77)).toArray hold (by kernel_rfl) (by rw [hsz]; rfl) (by kernel_rfl)
                unfold Run
                rw [run_storeE 27 _ _ rfl e2 q77 hst]
                refine HK.out _ _ (.inr ⟨Gro.setRow hold _ (by rw [hsz]; rfl), fun j hj u hr => rl_st (g := w.heap.size) (i := 38) 0 (by exact ⟨.inr (is_st _ _), .inr (is_st _ _), .inr (is_st _ _), .inr (is_st _ _), .inr (is_st _ _), .inr (is_st _ _), .inr (is_st _ _), .inr (is_st _ _), .inr (is_st _ _), .inr (is_st _ _), .inr (is_st _ _), .inr (is_st _ _), .inr (is_st _ _), .inr (is_st _ _), .inr (is_st _ _), .inr (is_st _ _), .inr (is_st _ _), .inr (is_st _ _), .inr (is_st _ _), .inr (is_st _ _), .inr (is_st _ _), .inr (is_st _ _), .inr (is_st _ _), .inr (is_st _ _), .inr (is_st _ _), .inr (is_st _ _), .inr (is_st _ _), .inr (is_st _ _), .inr (is_st _ _), .inr (is_st _ _), .inr (is_st _ _), .inr (is_st _ _), .inr (is_st _ _), .inr (is_st _ _), .inr (is_st _ _), .inr (is_st _ _), .inr (fresh_st HGB.out _), .inr (pktv_st HGB.out _), .inl rfl, .inr (is_st _ _), trivial⟩) j u _ _ (by omega) (Gro.setRow hold _ (by rw [hsz]; rfl)) hr⟩) ⟨A77, c77, setRow_heap _ _ _ _ _ _ hold, ?_⟩
                exact r77.setRow HGB.out _
              · intro ev w' hC hc hf hb hr K hK
                have HK := Lib.hid hK
                have HC := Lib.hid hC
                clear hb hr hK hC hf
                unfold Run
                simp [execOp, Upon, go_sem, *]
                exact HK.out _ _ (.inl (Below.refl _ _)) rfl
            · exact rl_mono ⟨is_mono _, is_mono _, is_mono _, is_mono _, is_mono _, is_mono _, is_mono _, is_mono _, is_mono _, is_mono _, is_mono _, is_mono _, is_mono _, is_mono _, is_mono _, is_mono _, is_mono _, is_mono _, is_mono _, is_mono _, is_mono _, is_mono _, is_mono _, is_mono _, is_mono _, is_mono _, is_mono _, is_mono _, is_mono _, is_mono _, is_mono _, is_mono _, is_mono _, is_mono _, is_mono _, is_mono _, fresh_mono _ _, pktv_mono _ _, stv_mono _ _ _, is_mono _, trivial⟩
            intro us2 ws hG hH
            obtain ⟨-, -, -, -, -, -, -, -, -, -, -, -, -, -, -, -, -, -, -, -, -, -, -, -, -, -, -, -, -, -, -, -, -, -, -, -, -, -, h38, h39, -⟩ := hH
            simp only [fillM]
            change (StV w5.heap.size w.heap.size ⟨id, mr, off, ttl, proto, [s0, s1, s2, s3], [d0, d1, d2, d3], data⟩ : Pred) undef ws at h38
            change us2 3 = _ at h39
            rw [h39]
            clear h39
            generalize us2 47 = v47
            generalize us2 48 = v48
            generalize us2 49 = v49
            generalize us2 50 = v50
            generalize us2 51 = v51
            generalize us2 52 = v52
            generalize us2 53 = v53
            generalize us2 54 = v54
            generalize us2 55 = v55
            generalize us2 56 = v56
            generalize us2 57 = v57
            generalize us2 58 = v58
            generalize us2 59 = v59
            generalize us2 60 = v60
            generalize us2 61 = v61
            generalize us2 62 = v62
            generalize us2 63 = v63
            generalize us2 64 = v64
            generalize us2 65 = v65
            generalize us2 66 = v66
            generalize us2 67 = v67
            generalize us2 68 = v68
            generalize us2 69 = v69
            generalize us2 70 = v70
            generalize us2 71 = v71
            generalize us2 72 = v72
            generalize us2 73 = v73
            generalize us2 74 = v74
            generalize us2 75 = v75
            generalize us2 76 = v76
            generalize us2 77 = v77
            generalize us2 78 = v78
            generalize us2 79 = v79
            generalize us2 80 = v80
            generalize us2 81 = v81
            generalize us2 82 = v82
            generalize us2 83 = v83
            generalize us2 84 = v84
            obtain ⟨A7, c7, hgp, hbk⟩ := h38
            have HGP := Lib.hid hgp
            have HBK := Lib.hid hbk
            have HBF : Hid (Below w.heap.size w ws) := HB5.out.trans (hG.below (fun k hk => Nat.le_of_eq hk.symm) HB5.out.size)
            clear hgp hbk hG n1 n1' n2 n2' n3 n3' n4 j1 j2 k8 k9 m8 m9 z8 z9 k12 m12 z12 k13 m13 z13 k14 m14 z14 k15 m15 z15 k16 m16 z16 k17 m17 z17 k18 m18 z18 k19 m19 z19
            go_wp2_with fail
            (try simp only [Exit.inBlock, Exit.then])
            refine ret_row (g := w.heap.size) (cs := (pkC ⟨id, mr, off, ttl, proto, [s0, s1, s2, s3], [d0, d1, d2, d3], data⟩ (.slice A7 data.length c7)).toArray) rfl rfl (load_pk HGP.out rfl) rfl ?_
            rw [HPZ4.out, HPK.out]
            exact ⟨_, rfl, ⟨A7, c7, rfl, ⟨HIB.out, rfl, rfl⟩, HOB.out, (HBK.out.1.wide (Nat.le_of_lt HGB.out) (Nat.le_refl _)), HBK.out.2.2.1, HBK.out.2.2.2, HBK.out.2.1⟩, HBF.out⟩
          · have HE : Hid (parseP l = (Pk.zero, 8)) := HPZ3.out.trans (if_pos q5)
            have v6 : (((sumL (l.take hd) : Nat) : Int) != 65535) = true := bneT (by omega)
            clear q5
            go_wp2_with (first | refine wpList_load_row rfl 27 _ rfl (w.heap.size + 1) rfl 27 #[.int .u16 0, .bool false, .int .i64 0, .int .u8 0, .int .u8 0, .int .u8 0, .int .u8 0, .int .u8 0, .int .u8 0, .int .u8 0, .int .u8 0, .int .u8 0, .int .u8 0, .slice none 0 0] (0, 0) _ HNr.out Try.underlying27 rfl (by kernel_rfl) ?_ | refine wpList_store_row rfl 27 _ _ rfl w.heap.size #[.int .u16 0, .bool false, .int .i64 0, .int .u8 0, .int .u8 0, .int .u8 0, .int .u8 0, .int .u8 0, .int .u8 0, .int .u8 0, .int .u8 0, .int .u8 0, .int .u8 0, .slice none 0 0] rfl rfl _ _ HGr.out (by kernel_rfl) rfl (by kernel_rfl) ?_)
            (try simp only [Exit.inBlock, Exit.then])
            refine ret_row (g := w.heap.size) (cs := #[.int .u16 0, .bool false, .int .i64 0, .int .u8 0, .int .u8 0, .int .u8 0, .int .u8 0, .int .u8 0, .int .u8 0, .int .u8 0, .int .u8 0, .int .u8 0, .int .u8 0, .slice none 0 0]) rfl rfl (load_pk (setRow_heap wr _ _ _ _ _ HGr.out) rfl) rfl ?_
            rw [HE.out]
            exact ⟨_, rfl, zero_pkV _ _ _, below_setRow HBr.out (Nat.le_refl _) _⟩
  · have HE : Hid (parseP l = (Pk.zero, 7)) := by show _ = _; rw [HPZ.out, if_pos (.inl q1)]
    have v1 : ((x.toNat : Int) / 16 != 4) = true := bneT (by omega)
    clear q1
    go_wp2_with (first | refine wpList_load_row rfl 27 _ rfl (w.heap.size + 1) rfl 27 #[.int .u16 0, .bool false, .int .i64 0, .int .u8 0, .int .u8 0, .int .u8 0, .int .u8 0, .int .u8 0, .int .u8 0, .int .u8 0, .int .u8 0, .int .u8 0, .int .u8 0, .slice none 0 0] (0, 0) _ HNr.out Try.underlying27 rfl (by kernel_rfl) ?_ | refine wpList_store_row rfl 27 _ _ rfl w.heap.size #[.int .u16 0, .bool false, .int .i64 0, .int .u8 0, .int .u8 0, .int .u8 0, .int .u8 0, .int .u8 0, .int .u8 0, .int .u8 0, .int .u8 0, .int .u8 0, .int .u8 0, .slice none 0 0] rfl rfl _ _ HGr.out (by kernel_rfl) rfl (by kernel_rfl) ?_)
    (try simp only [Exit.inBlock, Exit.then])
    refine ret_row (g := w.heap.size) (cs := #[.int .u16 0, .bool false, .int .i64 0, .int .u8 0, .int .u8 0, .int .u8 0, .int .u8 0, .int .u8 0, .int .u8 0, .int .u8 0, .int .u8 0, .int .u8 0, .int .u8 0, .slice none 0 0]) rfl rfl (load_pk (setRow_heap wr _ _ _ _ _ HGr.out) rfl) rfl ?_
    rw [HE.out]
    exact ⟨_, rfl, zero_pkV _ _ _, below_setRow HBr.out (Nat.le_refl _) _⟩

/-- caravelref06.Parse, all of it -/
theorem refparse_any (l : List UInt8) (w : World) (hl : l.length ≤ 100000) : Calls Try.prog 13 #[txt l] w (ParsePost w (parseP l)) := by
  by_cases h20 : l.length < 20
  · exact refparse_short l w h20
  · exact refparse_go l w (by omega) hl
end Go.Proofs.Ytbmjjhflaocgiaa
