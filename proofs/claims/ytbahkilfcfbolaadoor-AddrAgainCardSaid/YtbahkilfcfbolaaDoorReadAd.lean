/-
  addr.Read: which texts are addresses with a port, and whose. Every text of at most a milliard bytes, in every world in which the table lies.
-/
import Derived.Test.YtbahkilfcfbolaaDoorRead
namespace Go.Proofs.YtbahkilfcfbolaaDoor
open Go.RowKit

theorem readip_any (l : List UInt8) (w : World) (hl : l.length ≤ 1000000000) (hR : Ready w) :
    Calls Tryd.prog 12 #[txt l] w fun e w' => e = .returned (.tuple #[.agg (cells (ipOf l).1).toArray, .int .i64 (ipOf l).2]) ∧ Below w.heap.size w w' := by
  by_cases hp : (parts 46 4 l).length = 4
  · exact readip_full l w hl hp hR
  · exact readip_short l w hl hp hR

theorem cut_miss (c : UInt8) (l : List UInt8) (h : c ∉ l) : Lib.cut l [c] = (l, [], false) := by
  unfold Lib.cut
  rw [index_miss c l h]
  rfl
theorem cut_hit (c : UInt8) (a b : List UInt8) (h : c ∉ a) : Lib.cut (a ++ c :: b) [c] = (a, b, true) := by
  unfold Lib.cut
  rw [index_hit c a b h, if_pos (by omega)]
  simp

theorem zero_ip : (cells [0, 0, 0, 0]).toArray = #[.int .u8 0, .int .u8 0, .int .u8 0, .int .u8 0] := rfl
theorem old_alloc {w : World} {b : Nat} {o : Obj} (h : w.heap[b]? = some o) (o2 : Obj) : (w.alloc o2).heap[b]? = some o := (Below.heap_alloc _ _ _ (row_lt h)).trans h
theorem five_cells {w : World} {b : Nat} {v0 v1 v2 v3 v4 : Value} {t : TypeId} (h : w.heap[b]? = some (.cells #[v0, v1, v2, v3, v4] t (0, 0))) :
    w.cell? ⟨b, 0, none⟩ = some v0 ∧ w.cell? ⟨b, 1, none⟩ = some v1 ∧ w.cell? ⟨b, 2, none⟩ = some v2 ∧ w.cell? ⟨b, 3, none⟩ = some v3 ∧ w.cell? ⟨b, 4, none⟩ = some v4 := by
  refine ⟨?_, ?_, ?_, ?_, ?_⟩
  all_goals
    rw [cell_of_row _ _ _ _ _ _ h]
    rfl

set_option maxRecDepth 100000 in
set_option maxHeartbeats 1000000 in
theorem read_noip (l h b : List UInt8) (f : Bool) (w : World) (hl : l.length ≤ 1000000000) (hh : h.length ≤ 1000000000) (hcut : Lib.cut l [58] = (h, b, f)) (hip : ipOf h = ([0, 0, 0, 0], 7)) (hR : Ready w) :
    Calls Tryd.prog 10 #[txt l] w fun e w' => e = .returned (.tuple #[.agg #[.int .u8 0, .int .u8 0, .int .u8 0, .int .u8 0, .int .u16 0], .int .i64 7]) ∧ Below w.heap.size w w' := by
  have HIP := Lib.hid hip
  have HCUT := Lib.hid hcut
  clear hip hcut
  go_enter Tryd.func10, Tryd.ntmps10
  go_wp2_with fail
  have HB0 := Lib.hid ((Below.refl w.heap.size w).alloc (Nat.le_refl _) (Obj.cells #[.int .u8 0, .int .u8 0, .int .u8 0, .int .u8 0, .int .u16 0] 26))
  refine (cut_any l 58 _ hl (hR.below HB0.out (Nat.le_refl _))).mono ?_
  rintro e w1 ⟨rfl, hb1⟩
  rw [HCUT.out]
  have HB1 := Lib.hid (HB0.out.trans (hb1.mono HB0.out.size))
  go_wp2_with fail
  refine (readip_any h _ hh (hR.below HB1.out (Nat.le_refl _))).mono ?_
  rintro e w2 ⟨rfl, hb2⟩
  rw [HIP.out, zero_ip]
  have HB2 := Lib.hid (HB1.out.trans (hb2.mono HB1.out.size))
  have hz : w2.heap[w.heap.size]? = some (.cells #[.int .u8 0, .int .u8 0, .int .u8 0, .int .u8 0, .int .u16 0] 26 (0, 0)) := by
    rw [World.size_alloc] at hb1
    have h1 := (hb1.block w.heap.size (by omega)).trans (heap_alloc_new w _)
    exact (hb2.block _ (row_lt h1)).trans h1
  obtain ⟨hc0, hc1, hc2, hc3, hc4⟩ := five_cells hz
  have hf := fun j => frozen_of_row w2 _ j _ _ hz
  have hlt := row_lt hz
  have HZ := Lib.hid hz
  clear hz hb1 hb2
  go_wp2
  (try simp only [Exit.inBlock, Exit.then])
  refine ret_row (g := w.heap.size) (cs := #[.int .u8 0, .int .u8 0, .int .u8 0, .int .u8 0, .int .u16 0]) rfl rfl (load_addr (old_alloc (set5 HZ.out _ _ _ _ _) _) rfl) rfl ?_
  exact ⟨rfl, (below_set5 HB2.out (Nat.le_refl _) _ _ _ _ _).alloc (below_set5 HB2.out (Nat.le_refl _) _ _ _ _ _).size _⟩

set_option maxRecDepth 100000 in
set_option maxHeartbeats 1000000 in
theorem read_noport (l h b : List UInt8) (f : Bool) (x : List UInt8) (w : World) (hl : l.length ≤ 1000000000) (hh : h.length ≤ 1000000000) (hb : b.length ≤ 1000000000) (hx : x.length = 4) (hcut : Lib.cut l [58] = (h, b, f)) (hip : ipOf h = (x, 0)) (hnum : numS b 65535 = (0, false)) (hR : Ready w) :
    Calls Tryd.prog 10 #[txt l] w fun e w' => e = .returned (.tuple #[.agg #[.int .u8 0, .int .u8 0, .int .u8 0, .int .u8 0, .int .u16 0], .int .i64 7]) ∧ Below w.heap.size w w' := by
  have HIP := Lib.hid hip
  have HCUT := Lib.hid hcut
  have HNUM := Lib.hid hnum
  clear hip hcut hnum
  match x, hx with
  | [x0, x1, x2, x3], _ =>
  go_enter Tryd.func10, Tryd.ntmps10
  go_wp2_with fail
  have HB0 := Lib.hid ((Below.refl w.heap.size w).alloc (Nat.le_refl _) (Obj.cells #[.int .u8 0, .int .u8 0, .int .u8 0, .int .u8 0, .int .u16 0] 26))
  refine (cut_any l 58 _ hl (hR.below HB0.out (Nat.le_refl _))).mono ?_
  rintro e w1 ⟨rfl, hb1⟩
  rw [HCUT.out]
  have HB1 := Lib.hid (HB0.out.trans (hb1.mono HB0.out.size))
  go_wp2_with fail
  refine (readip_any h _ hh (hR.below HB1.out (Nat.le_refl _))).mono ?_
  rintro e w2 ⟨rfl, hb2⟩
  rw [HIP.out, cells4]
  have HB2 := Lib.hid (HB1.out.trans (hb2.mono HB1.out.size))
  have hz2 : w2.heap[w.heap.size]? = some (.cells #[.int .u8 0, .int .u8 0, .int .u8 0, .int .u8 0, .int .u16 0] 26 (0, 0)) := by
    rw [World.size_alloc] at hb1
    have h1 := (hb1.block w.heap.size (by omega)).trans (heap_alloc_new w _)
    exact (hb2.block _ (row_lt h1)).trans h1
  have HZ2 := Lib.hid hz2
  clear hz2 hb1 hb2
  go_wp2_with fail
  have HB3 := Lib.hid (HB2.out.alloc HB2.out.size (.cells #[.int .u8 (x0.toNat : Int), .int .u8 (x1.toNat : Int), .int .u8 (x2.toNat : Int), .int .u8 (x3.toNat : Int)] 23))
  refine (number_any b 65535 _ hb (by omega)).mono ?_
  rintro e w3 ⟨rfl, hb3⟩
  rw [HNUM.out]
  have hz : w3.heap[w.heap.size]? = some (.cells #[.int .u8 0, .int .u8 0, .int .u8 0, .int .u8 0, .int .u16 0] 26 (0, 0)) := by
    have h1 := old_alloc HZ2.out (.cells #[.int .u8 (x0.toNat : Int), .int .u8 (x1.toNat : Int), .int .u8 (x2.toNat : Int), .int .u8 (x3.toNat : Int)] 23)
    exact (hb3.block _ (row_lt h1)).trans h1
  have HB4 := Lib.hid (HB3.out.trans (hb3.mono HB3.out.size))
  obtain ⟨hc0, hc1, hc2, hc3, hc4⟩ := five_cells hz
  have hf := fun j => frozen_of_row w3 _ j _ _ hz
  have HZ := Lib.hid hz
  clear hz hb3
  go_wp2
  (try simp only [Exit.inBlock, Exit.then])
  refine ret_row (g := w.heap.size) (cs := #[.int .u8 0, .int .u8 0, .int .u8 0, .int .u8 0, .int .u16 0]) rfl rfl (load_addr (set5 HZ.out _ _ _ _ _) rfl) rfl ?_
  exact ⟨rfl, below_set5 HB4.out (Nat.le_refl _) _ _ _ _ _⟩

set_option maxRecDepth 100000 in
set_option maxHeartbeats 1000000 in
theorem read_ok (l h b : List UInt8) (f : Bool) (x : List UInt8) (p : Nat) (w : World) (hl : l.length ≤ 1000000000) (hh : h.length ≤ 1000000000) (hb : b.length ≤ 1000000000) (hx : x.length = 4) (hp : p ≤ 65535) (hcut : Lib.cut l [58] = (h, b, f)) (hip : ipOf h = (x, 0)) (hnum : numS b 65535 = (p, true)) (hR : Ready w) :
    Calls Tryd.prog 10 #[txt l] w fun e w' => e = .returned (.tuple #[.agg (cells x ++ [Value.int .u16 p]).toArray, .int .i64 0]) ∧ Below w.heap.size w w' := by
  have HIP := Lib.hid hip
  have HCUT := Lib.hid hcut
  have HNUM := Lib.hid hnum
  clear hip hcut hnum
  have hp2 : (p : Int) ≤ 65535 := by omega
  match x, hx with
  | [x0, x1, x2, x3], _ =>
  go_enter Tryd.func10, Tryd.ntmps10
  go_wp2_with fail
  have HB0 := Lib.hid ((Below.refl w.heap.size w).alloc (Nat.le_refl _) (Obj.cells #[.int .u8 0, .int .u8 0, .int .u8 0, .int .u8 0, .int .u16 0] 26))
  refine (cut_any l 58 _ hl (hR.below HB0.out (Nat.le_refl _))).mono ?_
  rintro e w1 ⟨rfl, hb1⟩
  rw [HCUT.out]
  have HB1 := Lib.hid (HB0.out.trans (hb1.mono HB0.out.size))
  go_wp2_with fail
  refine (readip_any h _ hh (hR.below HB1.out (Nat.le_refl _))).mono ?_
  rintro e w2 ⟨rfl, hb2⟩
  rw [HIP.out, cells4]
  have HB2 := Lib.hid (HB1.out.trans (hb2.mono HB1.out.size))
  have hz2 : w2.heap[w.heap.size]? = some (.cells #[.int .u8 0, .int .u8 0, .int .u8 0, .int .u8 0, .int .u16 0] 26 (0, 0)) := by
    rw [World.size_alloc] at hb1
    have h1 := (hb1.block w.heap.size (by omega)).trans (heap_alloc_new w _)
    exact (hb2.block _ (row_lt h1)).trans h1
  have HZ2 := Lib.hid hz2
  clear hz2 hb1 hb2
  go_wp2_with fail
  have HB3 := Lib.hid (HB2.out.alloc HB2.out.size (.cells #[.int .u8 (x0.toNat : Int), .int .u8 (x1.toNat : Int), .int .u8 (x2.toNat : Int), .int .u8 (x3.toNat : Int)] 23))
  refine (number_any b 65535 _ hb (by omega)).mono ?_
  rintro e w3 ⟨rfl, hb3⟩
  rw [HNUM.out]
  have hz : w3.heap[w.heap.size]? = some (.cells #[.int .u8 0, .int .u8 0, .int .u8 0, .int .u8 0, .int .u16 0] 26 (0, 0)) := by
    have h1 := old_alloc HZ2.out (.cells #[.int .u8 (x0.toNat : Int), .int .u8 (x1.toNat : Int), .int .u8 (x2.toNat : Int), .int .u8 (x3.toNat : Int)] 23)
    exact (hb3.block _ (row_lt h1)).trans h1
  have hy : w3.heap[w2.heap.size]? = some (.cells (cells [x0, x1, x2, x3]).toArray 23 (0, 0)) := by
    have h1 := heap_alloc_new w2 (.cells #[.int .u8 (x0.toNat : Int), .int .u8 (x1.toNat : Int), .int .u8 (x2.toNat : Int), .int .u8 (x3.toNat : Int)] 23)
    exact (hb3.block _ (row_lt h1)).trans h1
  have HB4 := Lib.hid (HB3.out.trans (hb3.mono HB3.out.size))
  obtain ⟨hc0, hc1, hc2, hc3, hc4⟩ := five_cells hz
  obtain ⟨hy0, hy1, hy2, hy3⟩ := four_cells hy
  have hf := fun j => frozen_of_row w3 _ j _ _ hz
  have HZ := Lib.hid hz
  clear hz hb3 hy
  go_wp2
  (try simp only [Exit.inBlock, Exit.then])
  refine ret_row (g := w.heap.size) (cs := (cells [x0, x1, x2, x3] ++ [Value.int .u16 p]).toArray) rfl rfl (load_addr (set5 HZ.out _ _ _ _ _) rfl) rfl ?_
  exact ⟨rfl, below_set5 HB4.out (Nat.le_refl _) _ _ _ _ _⟩

/-- an address with a port, as cells -/
def adV (x : List UInt8 × Nat) : Value := .agg (cells x.1 ++ [Value.int .u16 x.2]).toArray
/-- addr.Read, all of it -/
theorem read_any (l : List UInt8) (w : World) (hl : l.length ≤ 1000000000) (hR : Ready w) :
    Calls Tryd.prog 10 #[txt l] w fun e w' => e = .returned (.tuple #[adV (adOf l).1, .int .i64 (adOf l).2]) ∧ Below w.heap.size w w' := by
  rcases mark_cases 58 l with h | ⟨a, b, rfl, h⟩
  · have e : adOf l = (([0, 0, 0, 0], 0), 7) := adOf_miss l fun a p _ _ e => h (by rw [← e]; simp [adT])
    rw [e]
    rcases ipOf_cases l with ⟨x, hx, _, hip⟩ | ⟨hip, _⟩
    · exact read_noport l l [] false x w hl hl (by simp) hx (cut_miss 58 l h) hip rfl hR
    · exact read_noip l l [] false w hl hl (cut_miss 58 l h) hip hR
  · simp only [List.length_append, List.length_cons] at hl
    have hl2 : (a ++ 58 :: b).length ≤ 1000000000 := by simp only [List.length_append, List.length_cons]; omega
    rcases ipOf_cases a with ⟨x, hx, rfl, hip⟩ | ⟨hip, hno⟩
    · rcases numS_cases b 65535 with ⟨p, hp, rfl, hnum⟩ | ⟨hnum, hno⟩
      · have e : adOf (ipT x ++ 58 :: dec p) = ((x, p), 0) := adOf_hit x p hx (by omega)
        rw [e]
        exact read_ok _ _ _ true x p w hl2 (by omega) (by omega) hx hp (cut_hit 58 _ _ h) hip hnum hR
      · have e : adOf (ipT x ++ 58 :: b) = (([0, 0, 0, 0], 0), 7) := adOf_miss _ fun y p _ hp e => by
          obtain ⟨_, h2⟩ := mark_split (ipT_no y) h e
          exact hno p (by omega) h2.symm
        rw [e]
        exact read_noport _ _ _ true x w hl2 (by omega) (by omega) hx (cut_hit 58 _ _ h) hip hnum hR
    · have e : adOf (a ++ 58 :: b) = (([0, 0, 0, 0], 0), 7) := adOf_miss _ fun y p hy _ e => by
        obtain ⟨h1, _⟩ := mark_split (ipT_no y) h e
        exact hno y hy h1
      rw [e]
      exact read_noip _ _ _ true w hl2 (by omega) (cut_hit 58 _ _ h) hip hR
end Go.Proofs.YtbahkilfcfbolaaDoor
