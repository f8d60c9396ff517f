/-
  The document's own answer for which texts are cards' addresses (caravelref04.ReadMAC): it is the plain function of the contract. Every text of at most a million bytes.
-/
import Derived.Test.YtbahkilfcfbolaaDoorReadMac
import Derived.Test.YtbahkilfcfbolaaDoorRefWrite
import Derived.Test.YtbahkilfcfbolaaDoorTexts
namespace Go.Proofs.YtbahkilfcfbolaaDoor
open Go.RowKit

theorem hex1_len (c : UInt8) : (hexL [c]).length = 2 := by rw [hexL_length]; rfl
theorem macT_six (x0 x1 x2 x3 x4 x5 : UInt8) : macT [x0, x1, x2, x3, x4, x5] = hexL [x0] ++ 58 :: (hexL [x1] ++ 58 :: (hexL [x2] ++ 58 :: (hexL [x3] ++ 58 :: (hexL [x4] ++ 58 :: hexL [x5])))) := by
  unfold macT
  simp only [List.map_cons, List.map_nil]
  rw [join_two, join_two, join_two, join_two, join_two, Lib.join_one]
  simp
theorem macT_len (b : List UInt8) (hb : b.length = 6) : (macT b).length = 17 := by
  obtain ⟨x0, x1, x2, x3, x4, x5, rfl⟩ := cells6_of b hb
  rw [macT_six]
  simp only [List.length_append, List.length_cons, hex1_len]
theorem macT_part (b : List UInt8) (hb : b.length = 6) (k : Nat) (hk : k < b.length) : ((macT b).drop (3 * k)).take 2 = hexL [b[k]] := by
  obtain ⟨x0, x1, x2, x3, x4, x5, rfl⟩ := cells6_of b hb
  rw [macT_six]
  have h6 : k < 6 := hk
  simp only [hex1]
  rcases (show k = 0 ∨ k = 1 ∨ k = 2 ∨ k = 3 ∨ k = 4 ∨ k = 5 by omega) with rfl | rfl | rfl | rfl | rfl | rfl
  all_goals rfl

/-- behind k pairs of signs: whatever is written so begins as what lies there -/
def MaSt (l : List UInt8) (w : World) (k : Nat) (wr : World) : Prop :=
  ∃ bs : List UInt8, bs.length = 6 ∧ k ≤ 6 ∧ (∀ b : List UInt8, b.length = 6 → macT b = l → bs.take k = b.take k) ∧ wr.heap[w.heap.size]? = some (.cells (cells [0, 0, 0, 0, 0, 0]).toArray 41 (0, 0)) ∧ wr.heap[w.heap.size + 1]? = some (.cells (cells bs).toArray 41 (0, 0)) ∧ Below w.heap.size w wr
theorem mast_miss {l : List UInt8} {w wr w2 : World} {k : Nat} (h : MaSt l w k wr) (hk : k < 6) (hno : ∀ b : List UInt8, b.length = 6 → macT b ≠ l) (hb : Below wr.heap.size wr w2) : MaSt l w (k + 1) w2 := by
  obtain ⟨bs, h1, _, _, h4, h5, h6⟩ := h
  exact ⟨bs, h1, hk, fun b h7 h8 => absurd h8 (hno b h7), (hb.block _ (row_lt h4)).trans h4, (hb.block _ (row_lt h5)).trans h5, h6.trans (hb.mono h6.size)⟩
theorem mast_hit {l : List UInt8} {w wr w2 : World} {k : Nat} (h : MaSt l w k wr) (hk : k < 6) (c : UInt8) (hc : (l.drop (3 * k)).take 2 = hexL [c]) (hb : Below wr.heap.size wr w2) : MaSt l w (k + 1) (w2.setCell ⟨w.heap.size + 1, k, none⟩ (.int .u8 (c.toNat : Int))) := by
  obtain ⟨bs, h1, _, h3, h4, h5, h6⟩ := h
  refine ⟨bs.set k c, by simpa using h1, hk, fun b h7 h8 => ?_, ?_, ?_, (h6.trans (hb.mono h6.size)).setCell (p := ⟨w.heap.size + 1, k, none⟩) (by show w.heap.size ≤ w.heap.size + 1; omega) _⟩
  · have e : c = b[k] := hex1_inj _ _ (by rw [← hc, ← h8]; exact macT_part b h7 k (by omega))
    have e2 : (bs.set k c).take (k + 1) = bs.take k ++ [c] := by
      rw [List.take_succ_eq_append_getElem (by rw [List.length_set]; omega), List.take_set, List.set_eq_of_length_le (by rw [List.length_take]; omega), List.getElem_set_self]
    rw [e2, h3 b h7 h8, e, ← List.take_succ_eq_append_getElem (by omega)]
  · rw [heap_setCell_other _ _ _ _ (by show w.heap.size ≠ w.heap.size + 1; omega)]
    exact (hb.block _ (row_lt h4)).trans h4
  · rw [heap_setCell_same _ _ _ _ _ _ ((hb.block _ (row_lt h5)).trans h5), ← cells_set]
    simp

set_option maxRecDepth 100000 in
set_option maxHeartbeats 2000000 in
theorem refreadmac_any (l : List UInt8) (w : World) :
    Calls Tryd.prog 19 #[txt l] w fun e w' => e = .returned (.tuple #[.agg (cells (macOf l).1).toArray, .int .i64 (macOf l).2]) ∧ Below w.heap.size w w' := by
  go_enter Tryd.func19, Tryd.ntmps19
  go_wp2
  go_loopw [5] (fun i wr => ∃ k : Nat, i = .int .i64 k ∧ (k = 0 ∨ l.length = 17) ∧ MaSt l w k wr) (fun i _ => 6 - (intOf i).toNat)
  case atStart => exact ⟨0, rfl, .inl rfl, [0, 0, 0, 0, 0, 0], rfl, by omega, fun _ _ _ => rfl, at1 w _ _, at2 w _ _, ((Below.refl _ _).alloc (Nat.le_refl _) _).alloc (by simp) _⟩
  case round =>
    obtain ⟨k, rfl, hkl, hst⟩ := hrel
    have hk6 : k ≤ 6 := by
      obtain ⟨_, _, h, _⟩ := hst
      exact h
    by_cases hgo : k < 6 ∧ l.length = 17
    · obtain ⟨hk, hlen⟩ := hgo
      obtain ⟨q, hq⟩ : ∃ q, (l.drop (3 * k)).take 2 = q := ⟨_, rfl⟩
      have hq2 : q.length = 2 := by rw [← hq, List.length_take, List.length_drop]; omega
      have hext : (⟨l.toArray⟩ : ByteArray).extract (3 * k) (3 * k + 2) = ⟨q.toArray⟩ := by
        apply ByteArray.ext
        apply Array.ext'
        rw [Lib.extract_data, ← hq]
        simp
      obtain ⟨p, hp⟩ : ∃ p, 3 * k = p := ⟨_, rfl⟩
      rw [hp] at hext
      have hp1 : 3 * (k : Int) = (p : Int) := by omega
      have hp17 : p + 2 ≤ 17 := by omega
      have HQ := Lib.hid hq
      have HST := Lib.hid hst
      have hfr0 : wr.heap[w.heap.size + 1]? ≠ none := by
        obtain ⟨_, _, _, _, _, h5, _⟩ := hst
        rw [h5]
        simp
      clear hfr0
      have HKL : Hid ((∀ c, q ≠ hexL [c]) → ∀ b : List UInt8, b.length = 6 → macT b ≠ l) := fun hno b hb e => hno b[k] (by rw [← hq, ← e]; exact macT_part b hb k (by omega))
      clear hq hp hst hkl
      have hlen2 : ((l.length : Int) == 17) = true := by
        rw [beq_iff_eq]
        omega
      have hlen3 : (l.length : Int) = 17 := by omega
      rcases hex2_cases q hq2 with ⟨c, hqc, hun⟩ | ⟨hun, hno⟩
      · have HUN := Lib.hid hun
        have HQC := Lib.hid hqc
        clear hun hqc
        go_wp2_with fail
        refine (refunhex_any q _ (by omega)).mono ?_
        rintro e w2 ⟨rfl, hb2⟩
        rw [HUN.out]
        have hc2 : (∃ v, w2.cell? ⟨w.heap.size + 1, k, none⟩ = some (.int .u8 v)) ∧ w2.frozen? ⟨w.heap.size + 1, k, none⟩ = false := by
          obtain ⟨bs, h1, _, _, _, h5, _⟩ := HST.out
          have h6 := (hb2.block _ (row_lt h5)).trans h5
          exact ⟨⟨_, box_at h6 k (by omega)⟩, frozen_of_row w2 _ k _ _ h6⟩
        obtain ⟨⟨v, hv⟩, hfr⟩ := hc2
        have HN := Lib.hid (mast_hit HST.out hk c (by rw [HQ.out]; exact HQC.out) hb2)
        have hcx : ∀ hh, ((⟨[c].toArray⟩ : ByteArray)[0]'hh).toNat = c.toNat := fun _ => rfl
        clear hb2
        go_wp2
        go_roundw
        case rel => exact ⟨k + 1, by go_num, .inr hlen, HN.out⟩
        case measure => simp [intOf]; omega
      · have HUN := Lib.hid hun
        have HN0 := Lib.hid (HKL.out hno)
        clear hun hno
        go_wp2_with fail
        refine (refunhex_any q _ (by omega)).mono ?_
        rintro e w2 ⟨rfl, hb2⟩
        rw [HUN.out]
        have HN := Lib.hid (mast_miss HST.out hk HN0.out hb2)
        clear hb2
        go_wp2
        go_roundw
        case rel => exact ⟨k + 1, by go_num, .inr hlen, HN.out⟩
        case measure => simp [intOf]; omega
    · obtain ⟨bs, hbl, _, hag, h4, h5, hbw⟩ := hst
      have HAG : Hid (∀ b : List UInt8, b.length = 6 → macT b = l → bs = b) := fun b hb e => by
        have hlen : l.length = 17 := by rw [← e]; exact macT_len b hb
        have hk : k = 6 := by omega
        have h := hag b hb e
        rw [hk, List.take_of_length_le (by omega), List.take_of_length_le (by omega)] at h
        exact h
      clear hag
      obtain ⟨x0, x1, x2, x3, x4, x5, rfl⟩ := cells6_of bs hbl
      obtain ⟨a0, a1, a2, a3, a4, a5⟩ := six_cells h5
      have HM := Lib.hid (refmac_any [x0, x1, x2, x3, x4, x5] wr rfl)
      rw [show (cells [x0, x1, x2, x3, x4, x5]).toArray = #[.int .u8 (x0.toNat : Int), .int .u8 (x1.toNat : Int), .int .u8 (x2.toNat : Int), .int .u8 (x3.toNat : Int), .int .u8 (x4.toNat : Int), .int .u8 (x5.toNat : Int)] from rfl] at HM
      have H4 := Lib.hid h4
      have H5 := Lib.hid h5
      have HBW := Lib.hid hbw
      have HEXIT : Hid (k = 6 ∨ (k < 6 ∧ l.length ≠ 17)) := by
        show _ ∨ _
        omega
      clear h4 h5 hbw hkl hgo
      rcases HEXIT.out with rfl | ⟨hk, hln⟩
      all_goals
        first
          | (have hq3 : ((l.length : Int) == 17) = false := by rw [beq_eq_false_iff_ne]; omega)
          | skip
        go_wp2_with fail
        refine HM.out.mono ?_
        rintro e w2 ⟨rfl, hb2⟩
        have hz := (hb2.block _ (row_lt H4.out)).trans H4.out
        have hy := (hb2.block _ (row_lt H5.out)).trans H5.out
        obtain ⟨c0, c1, c2, c3, c4, c5⟩ := six_cells hz
        obtain ⟨d0, d1, d2, d3, d4, d5⟩ := six_cells hy
        have hf := fun j => frozen_of_row w2 _ j _ _ hz
        have HZ := Lib.hid hz
        have HB := Lib.hid (HBW.out.trans (hb2.mono HBW.out.size))
        clear hz hy hb2 a0 a1 a2 a3 a4 a5
        obtain ⟨T, hT⟩ : ∃ T, macT [x0, x1, x2, x3, x4, x5] = T := ⟨_, rfl⟩
        rw [hT]
        by_cases ht : T = l
        · have HP : Hid (macOf l = ([x0, x1, x2, x3, x4, x5], 0)) := by
            show _ = _
            rw [← ht, ← hT]
            exact macOf_hit _ rfl
          rw [ht]
          clear hT
          go_wp2
          (try simp only [Exit.inBlock, Exit.then])
          refine ret_row (g := w.heap.size) (cs := (cells [x0, x1, x2, x3, x4, x5]).toArray) rfl rfl (load_mac (set6 HZ.out _ _ _ _ _ _) rfl) rfl ?_
          rw [HP.out]
          exact ⟨rfl, below_set6 HB.out (Nat.le_refl _) _ _ _ _ _ _⟩
        · have HP : Hid (macOf l = ([0, 0, 0, 0, 0, 0], 7)) := macOf_miss l fun b hb e => ht (by rw [← hT, HAG.out b hb e]; exact e)
          have ht2 : (T == l) = false := by rw [beq_eq_false_iff_ne]; exact ht
          have ht3 : ((⟨T.toArray⟩ : ByteArray).toList == (⟨l.toArray⟩ : ByteArray).toList) = false := by
            rw [Lib.toList_data, Lib.toList_data]
            exact ht2
          clear hT
          go_wp2
          (try simp only [Exit.inBlock, Exit.then])
          refine ret_row (g := w.heap.size) (cs := (cells [0, 0, 0, 0, 0, 0]).toArray) rfl rfl (load_mac (set6 HZ.out _ _ _ _ _ _) rfl) rfl ?_
          rw [HP.out]
          exact ⟨rfl, below_set6 HB.out (Nat.le_refl _) _ _ _ _ _ _⟩
end Go.Proofs.YtbahkilfcfbolaaDoor
