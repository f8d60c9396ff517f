/-
  The document's answer for Within (caravelref04.word, Within): it is the plain function of the contract. Every two addresses, every number of bits.
-/
import Derived.Test.YtbahkilfcfbolaaDoorWithin
import Derived.Test.YtbahkilfcfbolaaDoorRefWrite
namespace Go.Proofs.YtbahkilfcfbolaaDoor
open Go.RowKit

set_option maxRecDepth 100000 in
theorem word_any (a : List UInt8) (w : World) (ha : a.length = 4) :
    Calls Tryd.prog 36 #[.agg (cells a).toArray] w fun e w' => e = .returned (.int .i64 (getV a)) ∧ Below w.heap.size w w' := by
  obtain ⟨x0, x1, x2, x3, rfl⟩ := cells4_of a ha
  obtain ⟨a, hae⟩ : ∃ a, [x0, x1, x2, x3] = a := ⟨_, rfl⟩
  have hca : (cells a).toArray = #[.int .u8 (x0.toNat : Int), .int .u8 (x1.toNat : Int), .int .u8 (x2.toNat : Int), .int .u8 (x3.toNat : Int)] := by rw [← hae]; rfl
  rw [hae] at ha ⊢
  have HCA := Lib.hid hca
  rw [hca]
  clear hae hca
  have HB : Hid (∀ o : Obj, Below w.heap.size w (w.alloc o)) := fun o => (Below.refl _ _).alloc (Nat.le_refl _) o
  have hbox : (w.alloc (.cells #[.int .u8 (x0.toNat : Int), .int .u8 (x1.toNat : Int), .int .u8 (x2.toNat : Int), .int .u8 (x3.toNat : Int)] 23)).heap[w.heap.size]? = some (.cells (cells a).toArray 23 (0, 0)) := by
    rw [HCA.out]
    exact heap_alloc_new w _
  have HBOX := Lib.hid hbox
  clear hbox
  go_enter Tryd.func36, Tryd.ntmps36
  go_wp2
  go_loop [3, 4] (fun n i => ∃ k : Nat, k ≤ 4 ∧ i = .int .i64 k ∧ n = .int .i64 (getV (a.take k))) (fun _ i => 4 - (intOf i).toNat)
  case atStart => exact ⟨0, Nat.zero_le _, rfl, rfl⟩
  case round =>
    obtain ⟨k, hk, rfl, rfl⟩ := hrel
    by_cases hks : k < 4
    · have hka : k < a.length := by rw [ha]; exact hks
      have hc := box_cell HBOX.out hka
      have hlt : getV (a.take k) < 4294967296 := by
        have h1 := getV_lt (a.take k)
        have h2 : (a.take k).length ≤ 4 := by rw [List.length_take]; omega
        have h3 : 2 ^ (8 * (a.take k).length) ≤ 2 ^ 32 := Nat.pow_le_pow_right (by omega) (by omega)
        exact Nat.lt_of_lt_of_le h1 h3
      have HS : Hid (getV (a.take (k + 1)) = getV (a.take k) * 256 + a[k].toNat) := by
        show _ = _
        rw [List.take_succ_eq_append_getElem hka, getV_snoc]
      obtain ⟨x, hx⟩ : ∃ x, a[k].toNat = x := ⟨_, rfl⟩
      have hxb : x < 256 := by rw [← hx]; exact a[k].toNat_lt
      rw [hx] at hc HS
      generalize getV (a.take k) = g at *
      clear hx
      go_wp2
      go_round
      case rel => exact ⟨k + 1, by omega, by go_num, by rw [HS.out]; congr 1; omega⟩
      case measure => simp [intOf]; omega
    · obtain rfl : k = 4 := by omega
      have HT : Hid (a.take 4 = a) := List.take_of_length_le (by omega)
      go_wp2
      go_ret
      rw [HT.out]
      exact ⟨rfl, HB.out _⟩
theorem word4 (x0 x1 x2 x3 : UInt8) (w : World) :
    Calls Tryd.prog 36 #[.agg #[.int .u8 (x0.toNat : Int), .int .u8 (x1.toNat : Int), .int .u8 (x2.toNat : Int), .int .u8 (x3.toNat : Int)]] w fun e w' => e = .returned (.int .i64 (getV [x0, x1, x2, x3])) ∧ Below w.heap.size w w' :=
  word_any [x0, x1, x2, x3] w rfl

theorem halve (g j : Nat) : g / 2 ^ (j + 1) = g / 2 ^ j / 2 := by rw [Nat.pow_succ, Nat.div_div_eq_div_mul]
theorem beq_dec (g h : Nat) : ((g : Int) == (h : Int)) = decide (g = h) := by
  rw [Bool.eq_iff_iff, beq_iff_eq, decide_eq_true_iff]
  exact Int.ofNat_inj
theorem refwithin_out (a n : List UInt8) (bits : Int) (w : World) (ha : a.length = 4) (hn : n.length = 4) (hb : bits < 0 ∨ 32 < bits) :
    Calls Tryd.prog 24 #[.agg (cells a).toArray, .agg (cells n).toArray, .int .i64 bits] w fun e w' => e = .returned (.bool (withinS a n bits)) ∧ Below w.heap.size w w' := by
  have HP : Hid (withinS a n bits = false) := by
    show _ = _
    unfold withinS
    exact decide_eq_false (by omega)
  obtain ⟨x0, x1, x2, x3, rfl⟩ := cells4_of a ha
  obtain ⟨y0, y1, y2, y3, rfl⟩ := cells4_of n hn
  rw [cells4, cells4]
  rcases hb with hb | hb
  all_goals
    go_enter Tryd.func24, Tryd.ntmps24
    go_wp2
    go_ret
    rw [HP.out]
    exact ⟨rfl, ((Below.refl _ _).alloc (Nat.le_refl _) _).alloc (by simp) _⟩

set_option maxRecDepth 100000 in
set_option maxHeartbeats 1000000 in
theorem refwithin_in (a n : List UInt8) (m : Nat) (w : World) (ha : a.length = 4) (hn : n.length = 4) (hb : m ≤ 32) :
    Calls Tryd.prog 24 #[.agg (cells a).toArray, .agg (cells n).toArray, .int .i64 m] w fun e w' => e = .returned (.bool (withinS a n m)) ∧ Below w.heap.size w w' := by
  obtain ⟨x0, x1, x2, x3, rfl⟩ := cells4_of a ha
  obtain ⟨y0, y1, y2, y3, rfl⟩ := cells4_of n hn
  rw [cells4, cells4]
  have HP : Hid (withinS [x0, x1, x2, x3] [y0, y1, y2, y3] m = decide (getV [x0, x1, x2, x3] / 2 ^ (32 - m) = getV [y0, y1, y2, y3] / 2 ^ (32 - m))) := by
    show _ = _
    unfold withinS
    rw [show ((32 : Int) - (m : Int)).toNat = 32 - m from by omega]
    congr 1
    simp
    omega
  have hga := getV4 [x0, x1, x2, x3] rfl
  have hgn := getV4 [y0, y1, y2, y3] rfl
  go_enter Tryd.func24, Tryd.ntmps24
  go_upto_region 3 with (fail)
  have hz1 := at1 w (Obj.cells #[.int .u8 (x0.toNat : Int), .int .u8 (x1.toNat : Int), .int .u8 (x2.toNat : Int), .int .u8 (x3.toNat : Int)] 23) (Obj.cells #[.int .u8 (y0.toNat : Int), .int .u8 (y1.toNat : Int), .int .u8 (y2.toNat : Int), .int .u8 (y3.toNat : Int)] 23)
  have hz2 := at2 w (Obj.cells #[.int .u8 (x0.toNat : Int), .int .u8 (x1.toNat : Int), .int .u8 (x2.toNat : Int), .int .u8 (x3.toNat : Int)] 23) (Obj.cells #[.int .u8 (y0.toNat : Int), .int .u8 (y1.toNat : Int), .int .u8 (y2.toNat : Int), .int .u8 (y3.toNat : Int)] 23)
  have hB5 : Below w.heap.size w ((w.alloc (Obj.cells #[.int .u8 (x0.toNat : Int), .int .u8 (x1.toNat : Int), .int .u8 (x2.toNat : Int), .int .u8 (x3.toNat : Int)] 23)).alloc (Obj.cells #[.int .u8 (y0.toNat : Int), .int .u8 (y1.toNat : Int), .int .u8 (y2.toNat : Int), .int .u8 (y3.toNat : Int)] 23)) := ((Below.refl _ _).alloc (Nat.le_refl _) _).alloc (by simp) _
  generalize (w.alloc (Obj.cells #[.int .u8 (x0.toNat : Int), .int .u8 (x1.toNat : Int), .int .u8 (x2.toNat : Int), .int .u8 (x3.toNat : Int)] 23)).alloc (Obj.cells #[.int .u8 (y0.toNat : Int), .int .u8 (y1.toNat : Int), .int .u8 (y2.toNat : Int), .int .u8 (y3.toNat : Int)] 23) = w5 at *
  have HB5 := Lib.hid hB5
  obtain ⟨hc0, hc1, hc2, hc3⟩ := four_cells4 (w := w5.drew) hz1
  obtain ⟨hd0, hd1, hd2, hd3⟩ := four_cells4 (w := w5.drew) hz2
  have hlt := row_lt hz2
  clear hz1 hz2 hB5
  go_region_with (go_at_call 36; refine (word4 _ _ _ _ _).mono ?_; rintro e w2 ⟨rfl, hb2⟩; (try have hn0 := (hb2.cell (p := ⟨w.heap.size + 1, 0, none⟩) hlt).trans hd0); (try have hn1 := (hb2.cell (p := ⟨w.heap.size + 1, 1, none⟩) hlt).trans hd1); (try have hn2 := (hb2.cell (p := ⟨w.heap.size + 1, 2, none⟩) hlt).trans hd2); (try have hn3 := (hb2.cell (p := ⟨w.heap.size + 1, 3, none⟩) hlt).trans hd3))
  all_goals
    have HBW := Lib.hid (below_more HB5.out (by assumption) hb2)
    clear hc0 hc1 hc2 hc3 hd0 hd1 hd2 hd3 hb2
    generalize getV [x0, x1, x2, x3] = g at *
    generalize getV [y0, y1, y2, y3] = h at *
    go_wp2
    go_loop [7, 8, 9] (fun x y i => ∃ j : Nat, m + j ≤ 32 ∧ i = .int .i64 ((m + j : Nat) : Int) ∧ x = .int .i64 ((g / 2 ^ j : Nat) : Int) ∧ y = .int .i64 ((h / 2 ^ j : Nat) : Int)) (fun _ _ i => 32 - (intOf i).toNat)
    case atStart => exact ⟨0, hb, rfl, by simp, by simp⟩
    case round =>
      obtain ⟨j, hj, rfl, rfl, rfl⟩ := hrel
      have HG := Lib.hid (halve g j)
      have HH := Lib.hid (halve h j)
      have hgl : g / 2 ^ j ≤ g := Nat.div_le_self _ _
      have hhl : h / 2 ^ j ≤ h := Nat.div_le_self _ _
      by_cases hjs : m + j < 32
      · generalize g / 2 ^ j = g1 at *
        generalize h / 2 ^ j = h1 at *
        obtain ⟨q, hq⟩ : ∃ q, m + j = q := ⟨_, rfl⟩
        rw [hq]
        rw [hq] at hjs
        have HQ := Lib.hid hq
        clear hq hj
        go_wp2
        go_round
        case rel => exact ⟨j + 1, by have := HQ.out; omega, by have := HQ.out; congr 1; omega, by rw [HG.out]; congr 1, by rw [HH.out]; congr 1⟩
        case measure => simp [intOf]; omega
      · obtain rfl : j = 32 - m := by omega
        have hq : m + (32 - m) = 32 := by omega
        rw [hq]
        generalize g / 2 ^ (32 - m) = g1 at *
        generalize h / 2 ^ (32 - m) = h1 at *
        clear hq hjs hj
        go_wp2
        go_ret
        rw [HP.out]
        exact ⟨congrArg (fun b => Ending.returned (Value.bool b)) (beq_dec g1 h1), HBW.out⟩

/-- the document's Within -/
theorem refwithin_any (a n : List UInt8) (bits : Int) (w : World) (ha : a.length = 4) (hn : n.length = 4) :
    Calls Tryd.prog 24 #[.agg (cells a).toArray, .agg (cells n).toArray, .int .i64 bits] w fun e w' => e = .returned (.bool (withinS a n bits)) ∧ Below w.heap.size w w' := by
  by_cases h : bits < 0 ∨ 32 < bits
  · exact refwithin_out a n bits w ha hn h
  · obtain ⟨m, rfl⟩ := Int.eq_ofNat_of_zero_le (show 0 ≤ bits by omega)
    exact refwithin_in a n m w ha hn (by omega)
end Go.Proofs.YtbahkilfcfbolaaDoor
