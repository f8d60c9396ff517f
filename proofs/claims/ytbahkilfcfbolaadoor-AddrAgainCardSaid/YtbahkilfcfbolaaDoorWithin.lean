/-
  addr.Within and the document's answer: whether an address begins with the first bits of a net. Every two addresses, every number of bits.
-/
import Derived.Test.YtbahkilfcfbolaaDoorWrite
import Derived.Test.YtbahkilfcfbolaaDoorGet
import Derived.Test.YtbahkilfcfbolaaDoorCells
namespace Go.Proofs.YtbahkilfcfbolaaDoor
open Go.RowKit

theorem cells4_of (a : List UInt8) (ha : a.length = 4) : ∃ x0 x1 x2 x3 : UInt8, a = [x0, x1, x2, x3] := by
  match a, ha with
  | [x0, x1, x2, x3], _ => exact ⟨x0, x1, x2, x3, rfl⟩
theorem rd_box {w : World} {b : Nat} {a : List UInt8} {t : TypeId} (h : w.heap[b]? = some (.cells (cells a).toArray t (0, 0))) : Rd w b (b + 1) (some ⟨b, 0, none⟩) (cells a) := by
  intro j u hu
  refine ⟨_, rfl, Nat.le_refl _, Nat.lt_succ_self _, ?_⟩
  have e : ((⟨b, 0, none⟩ : Addr).add j) = ⟨b, j, none⟩ := by
    unfold Addr.add
    by_cases h0 : j = 0 <;> simp [h0]
  rw [e, cell_of_row _ _ j _ _ _ h]
  simpa using hu
theorem getV4 (a : List UInt8) (ha : a.length = 4) : getV a < 4294967296 := by
  have := getV_lt a
  rw [ha] at this
  exact this

theorem four_cells4 {w : World} {b : Nat} {v0 v1 v2 v3 : Value} {t : TypeId} (h : w.heap[b]? = some (.cells #[v0, v1, v2, v3] t (0, 0))) :
    w.cell? ⟨b, 0, none⟩ = some v0 ∧ w.cell? ⟨b, 1, none⟩ = some v1 ∧ w.cell? ⟨b, 2, none⟩ = some v2 ∧ w.cell? ⟨b, 3, none⟩ = some v3 := by
  refine ⟨?_, ?_, ?_, ?_⟩
  all_goals
    rw [cell_of_row _ _ _ _ _ _ h]
    rfl
theorem whole_any (a : List UInt8) (w : World) (ha : a.length = 4) :
    Calls Tryd.prog 35 #[.agg (cells a).toArray] w fun e w' => e = .returned (.int .u64 (getV a)) ∧ Below w.heap.size w w' := by
  obtain ⟨x0, x1, x2, x3, rfl⟩ := cells4_of a ha
  rw [cells4]
  have hg : Hid (∀ o : Obj, o = .cells (cells [x0, x1, x2, x3]).toArray 23 (0, 0) → Calls Tryd.prog 45 #[.slice (some ⟨w.heap.size, 0, none⟩) 4 4] (w.alloc o) fun e w' => e = .returned (.tuple #[.int .u64 (getV [x0, x1, x2, x3]), .int .i64 0]) ∧ w.alloc o = w') := by
    rintro o rfl
    exact get_ok ⟨w.heap.size, 0, none⟩ [x0, x1, x2, x3] 4 _ _ _ (rd_box (heap_alloc_new w _)) (by simp)
  go_enter Tryd.func35, Tryd.ntmps35
  go_wp2_with fail
  refine (hg.out _ rfl).mono ?_
  rintro e w1 ⟨rfl, rfl⟩
  go_wp2
  go_ret
  exact ⟨rfl, (Below.refl _ _).alloc (Nat.le_refl _) _⟩

/-- the first bits of both are the same -/
def withinS (a n : List UInt8) (bits : Int) : Bool := decide (0 ≤ bits ∧ bits ≤ 32 ∧ getV a / 2 ^ (32 - bits).toNat = getV n / 2 ^ (32 - bits).toNat)
theorem within_out (a n : List UInt8) (bits : Int) (w : World) (ha : a.length = 4) (hn : n.length = 4) (hb : bits < 0 ∨ 32 < bits) :
    Calls Tryd.prog 23 #[.agg (cells a).toArray, .agg (cells n).toArray, .int .i64 bits] w fun e w' => e = .returned (.bool (withinS a n bits)) ∧ Below w.heap.size w w' := by
  have HP : Hid (withinS a n bits = false) := by
    show _ = _
    unfold withinS
    exact decide_eq_false (by omega)
  obtain ⟨x0, x1, x2, x3, rfl⟩ := cells4_of a ha
  obtain ⟨y0, y1, y2, y3, rfl⟩ := cells4_of n hn
  rw [cells4, cells4]
  rcases hb with hb | hb
  all_goals
    go_enter Tryd.func23, Tryd.ntmps23
    go_wp2
    go_ret
    rw [HP.out]
    exact ⟨rfl, ((Below.refl _ _).alloc (Nat.le_refl _) _).alloc (by simp) _⟩
theorem below_more {w w5 wa wb : World} (h5 : Below w.heap.size w w5) (h1 : Below w5.drew.heap.size w5.drew wa) (h2 : Below wa.heap.size wa wb) : Below w.heap.size w wb := by
  have h3 := h5.drew.trans (h1.mono h5.size)
  exact h3.trans (h2.mono h3.size)
theorem div_eq_dec (g h s : Nat) : ((g : Int) / 2 ^ s == (h : Int) / 2 ^ s) = decide (g / 2 ^ s = h / 2 ^ s) := by
  have e : ∀ x : Nat, (x : Int) / 2 ^ s = ((x / 2 ^ s : Nat) : Int) := fun x => by
    rw [Int.natCast_ediv]
    simp
  rw [e, e, Bool.eq_iff_iff, beq_iff_eq, decide_eq_true_iff]
  exact Int.ofNat_inj
theorem whole4 (x0 x1 x2 x3 : UInt8) (w : World) :
    Calls Tryd.prog 35 #[.agg #[.int .u8 (x0.toNat : Int), .int .u8 (x1.toNat : Int), .int .u8 (x2.toNat : Int), .int .u8 (x3.toNat : Int)]] w fun e w' => e = .returned (.int .u64 (getV [x0, x1, x2, x3])) ∧ Below w.heap.size w w' :=
  whole_any [x0, x1, x2, x3] w rfl

set_option maxRecDepth 100000 in
set_option maxHeartbeats 1000000 in
theorem within_in (a n : List UInt8) (m : Nat) (w : World) (ha : a.length = 4) (hn : n.length = 4) (hb : m ≤ 32) :
    Calls Tryd.prog 23 #[.agg (cells a).toArray, .agg (cells n).toArray, .int .i64 m] w fun e w' => e = .returned (.bool (withinS a n m)) ∧ Below w.heap.size w w' := by
  obtain ⟨x0, x1, x2, x3, rfl⟩ := cells4_of a ha
  obtain ⟨y0, y1, y2, y3, rfl⟩ := cells4_of n hn
  rw [cells4, cells4]
  have HQ : Hid ((32 : Int) - (m : Int) = ((32 - m : Nat) : Int)) := by
    show _ = _
    omega
  have HP : Hid (withinS [x0, x1, x2, x3] [y0, y1, y2, y3] m = decide (getV [x0, x1, x2, x3] / 2 ^ (32 - m) = getV [y0, y1, y2, y3] / 2 ^ (32 - m))) := by
    show _ = _
    unfold withinS
    rw [show ((32 : Int) - (m : Int)).toNat = 32 - m from by omega]
    congr 1
    simp
    omega
  go_enter Tryd.func23, Tryd.ntmps23
  go_upto_region 4 with (fail)
  have hz1 := at1 w (Obj.cells #[.int .u8 (x0.toNat : Int), .int .u8 (x1.toNat : Int), .int .u8 (x2.toNat : Int), .int .u8 (x3.toNat : Int)] 23) (Obj.cells #[.int .u8 (y0.toNat : Int), .int .u8 (y1.toNat : Int), .int .u8 (y2.toNat : Int), .int .u8 (y3.toNat : Int)] 23)
  have hz2 := at2 w (Obj.cells #[.int .u8 (x0.toNat : Int), .int .u8 (x1.toNat : Int), .int .u8 (x2.toNat : Int), .int .u8 (x3.toNat : Int)] 23) (Obj.cells #[.int .u8 (y0.toNat : Int), .int .u8 (y1.toNat : Int), .int .u8 (y2.toNat : Int), .int .u8 (y3.toNat : Int)] 23)
  have hB5 : Below w.heap.size w ((w.alloc (Obj.cells #[.int .u8 (x0.toNat : Int), .int .u8 (x1.toNat : Int), .int .u8 (x2.toNat : Int), .int .u8 (x3.toNat : Int)] 23)).alloc (Obj.cells #[.int .u8 (y0.toNat : Int), .int .u8 (y1.toNat : Int), .int .u8 (y2.toNat : Int), .int .u8 (y3.toNat : Int)] 23)) := ((Below.refl _ _).alloc (Nat.le_refl _) _).alloc (by simp) _
  generalize (w.alloc (Obj.cells #[.int .u8 (x0.toNat : Int), .int .u8 (x1.toNat : Int), .int .u8 (x2.toNat : Int), .int .u8 (x3.toNat : Int)] 23)).alloc (Obj.cells #[.int .u8 (y0.toNat : Int), .int .u8 (y1.toNat : Int), .int .u8 (y2.toNat : Int), .int .u8 (y3.toNat : Int)] 23) = w5 at *
  have hq := HQ.out
  have HB5 := Lib.hid hB5
  obtain ⟨hc0, hc1, hc2, hc3⟩ := four_cells4 (w := w5.drew) hz1
  obtain ⟨hd0, hd1, hd2, hd3⟩ := four_cells4 (w := w5.drew) hz2
  have hlt := row_lt hz2
  have hs64 : 32 - m ≤ 32 := Nat.sub_le _ _
  clear hz1 hz2 hB5
  generalize 32 - m = sh at *
  clear hb
  go_region_with (go_at_call 35; refine (whole4 _ _ _ _ _).mono ?_; rintro e w2 ⟨rfl, hb2⟩; (try have hn0 := (hb2.cell (p := ⟨w.heap.size + 1, 0, none⟩) hlt).trans hd0); (try have hn1 := (hb2.cell (p := ⟨w.heap.size + 1, 1, none⟩) hlt).trans hd1); (try have hn2 := (hb2.cell (p := ⟨w.heap.size + 1, 2, none⟩) hlt).trans hd2); (try have hn3 := (hb2.cell (p := ⟨w.heap.size + 1, 3, none⟩) hlt).trans hd3))
  all_goals
    clear hc0 hc1 hc2 hc3 hd0 hd1 hd2 hd3
    go_wp2
    go_ret
    exact ⟨congrArg (fun b => Ending.returned (Value.bool b)) ((div_eq_dec _ _ _).trans HP.out.symm), below_more HB5.out (by assumption) hb2⟩

/-- addr.Within, all of it -/
theorem within_any (a n : List UInt8) (bits : Int) (w : World) (ha : a.length = 4) (hn : n.length = 4) :
    Calls Tryd.prog 23 #[.agg (cells a).toArray, .agg (cells n).toArray, .int .i64 bits] w fun e w' => e = .returned (.bool (withinS a n bits)) ∧ Below w.heap.size w w' := by
  by_cases h : bits < 0 ∨ 32 < bits
  · exact within_out a n bits w ha hn h
  · obtain ⟨m, rfl⟩ := Int.eq_ofNat_of_zero_le (show 0 ≤ bits by omega)
    exact within_in a n m w ha hn (by omega)
end Go.Proofs.YtbahkilfcfbolaaDoor
