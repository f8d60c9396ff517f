/-
  The document's own answer for which texts are hosts' addresses (caravelref04.ReadIP): it is the plain function of the contract. Every text of less than a million bytes, in every world in which the table lies.
-/
import Derived.Test.YtbahkilfcfbolaaDoorRefAd
import Derived.Test.YtbahkilfcfbolaaDoorWithin
namespace Go.Proofs.YtbahkilfcfbolaaDoor
open Go.RowKit

theorem refread_any (l : List UInt8) (w : World) (hl : l.length ≤ 1000000) (hR : Ready w) :
    Calls Tryd.prog 11 #[txt l] w fun e w' => e = .returned (.tuple #[adV (adOf l).1, .int .i64 (adOf l).2]) ∧ Below w.heap.size w w' := by
  by_cases h : (numsF l).1.length = 4
  · obtain ⟨s, hs⟩ : ∃ s, numsF l = s := ⟨_, rfl⟩
    rw [hs] at h
    obtain ⟨pre, n4⟩ := s
    match pre, h, hs with
    | [n0, n1, n2, n3], _, hs => exact refread_five l n0 n1 n2 n3 n4 w hl hs hR
  · exact refread_len l w hl h

/-- a host's address is one with port 0 but for the port -/
theorem ad_of_ip (l : List UInt8) : (adOf (l ++ [58, 48])).1.1 = (ipOf l).1 ∧ (adOf (l ++ [58, 48])).2 = (ipOf l).2 ∧ (adOf (l ++ [58, 48])).1.1.length = 4 := by
  rcases ipOf_cases l with ⟨a, ha, rfl, hip⟩ | ⟨hip, hno⟩
  · have e : ipT a ++ [58, 48] = adT a 0 := by
      unfold adT
      rw [dec_small (by omega)]
      rfl
    rw [hip, e, adOf_hit a 0 ha (by omega)]
    exact ⟨rfl, rfl, ha⟩
  · have e : adOf (l ++ [58, 48]) = (([0, 0, 0, 0], 0), 7) := adOf_miss _ fun a p ha hp e => by
      rcases mark_cases 58 l with h | ⟨x, y, rfl, h⟩
      · exact hno a ha (mark_split (ipT_no a) h e).1
      · rw [List.append_assoc, List.cons_append] at e
        have h2 := (mark_split (ipT_no a) h e).2
        exact no_mark (c := 58) (by decide) p (by rw [h2]; simp)
    rw [e, hip]
    exact ⟨rfl, rfl, rfl⟩

set_option maxRecDepth 100000 in
set_option maxHeartbeats 1000000 in
theorem refreadip_any (l : List UInt8) (w : World) (hl : l.length ≤ 900000) (hR : Ready w) :
    Calls Tryd.prog 13 #[txt l] w fun e w' => e = .returned (.tuple #[.agg (cells (ipOf l).1).toArray, .int .i64 (ipOf l).2]) ∧ Below w.heap.size w w' := by
  obtain ⟨h1, h2, h3⟩ := ad_of_ip l
  have HL : Hid (∀ w, Ready w → Calls Tryd.prog 11 #[.string (⟨l.toArray⟩ ++ ⟨#[58, 48]⟩)] w fun e w' => e = .returned (.tuple #[adV (adOf (l ++ [58, 48])).1, .int .i64 (adOf (l ++ [58, 48])).2]) ∧ Below w.heap.size w w') := fun w hw => by
    have e : (⟨l.toArray⟩ : ByteArray) ++ ⟨#[58, 48]⟩ = ⟨(l ++ [58, 48]).toArray⟩ := by
      apply ByteArray.ext
      simp
    rw [e]
    exact refread_any _ w (by simp; omega) hw
  rw [← h1, ← h2]
  generalize adOf (l ++ [58, 48]) = r at *
  obtain ⟨⟨b, p⟩, er⟩ := r
  simp only at h3
  match b, h3 with
  | [x0, x1, x2, x3], _ =>
  unfold adV at HL
  rw [show (cells [x0, x1, x2, x3] ++ [Value.int .u16 p]).toArray = #[.int .u8 (x0.toNat : Int), .int .u8 (x1.toNat : Int), .int .u8 (x2.toNat : Int), .int .u8 (x3.toNat : Int), .int .u16 p] from rfl] at HL
  clear h1 h2
  go_enter Tryd.func13, Tryd.ntmps13
  go_wp2_with fail
  have HB0 := Lib.hid ((Below.refl w.heap.size w).alloc (Nat.le_refl _) (Obj.cells #[.int .u8 0, .int .u8 0, .int .u8 0, .int .u8 0] 23))
  refine (HL.out _ (hR.below HB0.out (Nat.le_refl _))).mono ?_
  rintro e w1 ⟨rfl, hb⟩
  have hz : w1.heap[w.heap.size]? = some (.cells #[.int .u8 0, .int .u8 0, .int .u8 0, .int .u8 0] 23 (0, 0)) := by
    rw [World.size_alloc] at hb
    exact (hb.block w.heap.size (by omega)).trans (heap_alloc_new w _)
  obtain ⟨hc0, hc1, hc2, hc3⟩ := four_cells4 hz
  have hf := fun j => frozen_of_row w1 _ j _ _ hz
  have hlt := row_lt hz
  have HZ := Lib.hid hz
  have HB := Lib.hid (HB0.out.trans (hb.mono HB0.out.size))
  clear hb hz HL
  go_wp2
  (try simp only [Exit.inBlock, Exit.then])
  refine ret_row (g := w.heap.size) (cs := (cells [x0, x1, x2, x3]).toArray) rfl rfl (load_ip (old_alloc (set4 HZ.out _ _ _ _) _) rfl) rfl ?_
  exact ⟨rfl, (below_set4 HB.out (Nat.le_refl _) _ _ _ _).alloc (below_set4 HB.out (Nat.le_refl _) _ _ _ _).size _⟩
end Go.Proofs.YtbahkilfcfbolaaDoor
